package mover

import (
	"fmt"
	"maps"
	"math"
	"slices"
	"testing"

	"middenheap/api"
	"middenheap/arena"
)

// The bounds are written out, as are the words below: nothing of the program is held against itself.
const (
	mostField = 8
	mostPlace = 1 << 17
	mostWords = 1 << 16
	all       = ^uint64(0)
	high      = uint64(1) << 63
	maxInt    = math.MaxInt
	minInt    = math.MinInt
)

// The words of a few objects' shapes: a Head is 1, 2 times the pointers, 32 times the numbers, and 512, 1024, 2048 of a weak one, of one to be finalized, of one that is freed.
const (
	bare  = 1
	pair  = 1 + 2 + 32
	weak  = 1 + 2 + 512
	final = 1 + 2*2 + 32*3 + 1024
	full  = 1 + 2*8 + 32*8
	freed = 2048
)

// made is what a Head is made of.
type made struct {
	s     api.Shape
	freed bool
}

// headOf is a Head as a sum.
func headOf(m made) uint64 {
	w := 1 + 2*uint64(m.s.Ptrs) + 32*uint64(m.s.Data)
	for _, x := range []struct {
		is  bool
		bit uint64
	}{{m.s.Weak, 512}, {m.s.Final, 1024}, {m.freed, freed}} {
		if x.is {
			w += x.bit
		}
	}
	return w
}

// goneTo is the word of an object that is at another place now.
func goneTo(at int) uint64 { return 4*uint64(at) + 2 }

// sizeOf is how many words an object of a right shape has.
func sizeOf(s api.Shape) int { return 3 + s.Ptrs + s.Data }

// rounded is the least size that is n or above, of those that an object may take.
func rounded(n int) int {
	for _, size := range []int{4, 6, 8, 12, 16, 24} {
		if size >= n {
			return size
		}
	}
	panic("no object is as great")
}

// shapes are all right ones.
func shapes() []api.Shape {
	l := []api.Shape{{Ptrs: 1, Weak: true}}
	for ptrs := range mostField + 1 {
		for data := range mostField + 1 {
			l = append(l, api.Shape{Ptrs: ptrs, Data: data}, api.Shape{Ptrs: ptrs, Data: data, Final: true})
		}
	}
	return l
}

// fewShapes are one of each size in words that an object may take, and such as are weak or to be finalized.
func fewShapes() []api.Shape {
	return []api.Shape{{}, {Ptrs: 1}, {Ptrs: 1, Data: 1}, {Ptrs: 1, Weak: true}, {Data: 3}, {Ptrs: 2, Data: 3, Final: true}, {Ptrs: 5, Data: 8}, {Ptrs: 8, Data: 8, Final: true}}
}

// heads are all words that are a Head.
func heads() map[uint64]made {
	l := make(map[uint64]made)
	for _, s := range shapes() {
		for _, is := range []bool{false, true} {
			l[headOf(made{s, is})] = made{s, is}
		}
	}
	return l
}

// laid is an arena of these words, which may be none.
func laid(t *testing.T, words []uint64) *arena.Arena {
	t.Helper()
	if len(words) == 0 {
		return new(arena.Arena)
	}
	a, e := arena.New(len(words))
	if e != api.OK {
		t.Fatalf("New(%d): %d", len(words), e)
	}
	for at, w := range words {
		if e := a.Store(at, w); e != api.OK {
			t.Fatalf("Store(%d): %d", at, e)
		}
	}
	return a
}

// dirt is so many words, none of which is 0, a Head or a Gone.
func dirt(words int) []uint64 {
	var l []uint64
	for at := range words {
		l = append(l, all-3-4*uint64(at))
	}
	return l
}

// words is what an arena's words are.
func words(t *testing.T, a *arena.Arena) []uint64 {
	t.Helper()
	var l []uint64
	for at := range a.Len() {
		w, e := a.Load(at)
		if e != api.OK {
			t.Fatalf("Load(%d): %d", at, e)
		}
		l = append(l, w)
	}
	return l
}

// check holds an arena's words against a list.
func check(t *testing.T, what string, a *arena.Arena, want ...uint64) {
	t.Helper()
	if got := words(t, a); !slices.Equal(got, want) {
		t.Errorf("behind %s the words are %v, not %v", what, got, want)
	}
}

// objectOf is the words of an object whose second word, serial and fields are each another one.
func objectOf(m made) []uint64 {
	l := []uint64{headOf(m), 6, 1000}
	for i := range m.s.Ptrs {
		l = append(l, uint64(100+4*i))
	}
	for i := range m.s.Data {
		l = append(l, uint64(200+4*i))
	}
	return l
}

// took is the words of an object, and such as are no object's up to its rounded size.
func took(m made) []uint64 {
	l := objectOf(m)
	for len(l) < rounded(sizeOf(m.s)) {
		l = append(l, 44)
	}
	return l
}

// answer is all that a call may answer.
type answer struct {
	s  api.Space
	n  int
	ok bool
	l  []int
	e  api.Errno
}

// same tells whether two answers are the same; two lists without elements are.
func same(a, b answer) bool {
	return a.s == b.s && a.n == b.n && a.ok == b.ok && a.e == b.e && slices.Equal(a.l, b.l)
}

// rules is the chapter, word for word, on a list of words.
type rules struct {
	heads map[uint64]made
	l     []uint64
}

// lies tells whether n words from a place on are there.
func (r rules) lies(at, n int) bool { return at >= 0 && at < len(r.l) && len(r.l)-at >= n }

// object is what stands at a place.
func (r rules) object(at int) (made, api.Errno) {
	if !r.lies(at, 1) {
		return made{}, api.ErrAddr
	}
	m, ok := r.heads[r.l[at]]
	if !ok || !r.lies(at, sizeOf(m.s)) {
		return made{}, api.ErrObject
	}
	return m, api.OK
}

// mayBe is the condition of chapter 5 that a space is right.
func mayBe(s api.Space) bool {
	if s.Base < 0 || s.Base > mostWords || s.Size < 0 || s.Size > mostWords {
		return false
	}
	return s.Top >= s.Base && s.Top <= s.Base+s.Size
}

func (r rules) at(at int) answer {
	if !r.lies(at, 1) || r.l[at]%4 != 2 || r.l[at] < 4*1 || r.l[at] > 4*mostPlace+2 {
		return answer{}
	}
	return answer{n: int(r.l[at] / 4), ok: true}
}

func (r rules) copy(at int, s api.Space) answer {
	if gone := r.at(at); gone.ok {
		return answer{s: s, n: gone.n}
	}
	m, e := r.object(at)
	if e != api.OK {
		return answer{s: s, e: e}
	}
	size := sizeOf(m.s)
	if !mayBe(s) || s.Base+s.Size-s.Top < rounded(size) || s.Top == 0 || !r.lies(s.Top, size) {
		return answer{s: s, e: api.ErrRoom}
	}
	for i, w := range slices.Clone(r.l[at : at+size]) {
		r.l[s.Top+i] = w
	}
	r.l[at] = goneTo(s.Top)
	return answer{s: api.Space{Base: s.Base, Size: s.Size, Top: s.Top + rounded(size)}, n: s.Top}
}

func (r rules) strong(at int) answer {
	m, e := r.object(at)
	if e != api.OK || m.s.Weak {
		return answer{e: e}
	}
	var l []int
	for i := range m.s.Ptrs {
		l = append(l, int(r.l[at+3+i]))
	}
	return answer{l: l}
}

func (r rules) setStrong(at int, l []int) answer {
	m, e := r.object(at)
	if e != api.OK {
		return answer{e: e}
	}
	n := m.s.Ptrs
	if m.s.Weak {
		n = 0
	}
	if len(l) != n || slices.ContainsFunc(l, func(p int) bool { return p < 0 || p > mostPlace }) {
		return answer{e: api.ErrArg}
	}
	for i, p := range l {
		r.l[at+3+i] = uint64(p)
	}
	return answer{}
}

func (r rules) walk(s api.Space) answer {
	if !mayBe(s) {
		return answer{}
	}
	var l []int
	for at := s.Base; at < s.Top; {
		stands := at
		if gone := r.at(at); gone.ok {
			stands = gone.n
		}
		m, e := r.object(stands)
		if e != api.OK {
			break
		}
		l = append(l, at)
		at += rounded(sizeOf(m.s))
	}
	return answer{l: l}
}

// call is one call on an arena, and the rules' on its words.
type call struct {
	name string
	do   func(a *arena.Arena) answer
	want func(r rules) answer
}

// run holds calls against the rules, each on an arena of its own: what it answers, and what the words are behind it.
func run(t *testing.T, heads map[uint64]made, l []uint64, calls []call) {
	t.Helper()
	a := laid(t, l)
	for _, c := range calls {
		behind := slices.Clone(l)
		want := c.want(rules{heads, behind})
		if got := c.do(a); !same(got, want) {
			t.Errorf("%s on %v: %+v, not %+v", c.name, l, got, want)
		}
		got := words(t, a)
		if !slices.Equal(got, behind) {
			t.Errorf("behind %s on %v: %v, not %v", c.name, l, got, behind)
		}
		if !slices.Equal(got, l) {
			a = laid(t, l)
		}
	}
}

// runOne holds calls against the rules, one behind the other on the same arena.
func runOne(t *testing.T, heads map[uint64]made, l []uint64, calls []call) {
	t.Helper()
	a, r := laid(t, l), rules{heads, slices.Clone(l)}
	for k, c := range calls {
		want := c.want(r)
		if got := c.do(a); !same(got, want) {
			t.Errorf("%s, as call %d on %v: %+v, not %+v", c.name, k, l, got, want)
		}
		if got := words(t, a); !slices.Equal(got, r.l) {
			t.Fatalf("behind %s, as call %d on %v: %v, not %v", c.name, k, l, got, r.l)
		}
	}
}

func copyCall(at int, s api.Space) call {
	return call{
		fmt.Sprintf("Copy(%d, %+v)", at, s),
		func(a *arena.Arena) answer { s, n, e := Copy(a, at, s); return answer{s: s, n: n, e: e} },
		func(r rules) answer { return r.copy(at, s) },
	}
}

func atCall(at int) call {
	return call{
		fmt.Sprintf("At(%d)", at),
		func(a *arena.Arena) answer { n, ok := At(a, at); return answer{n: n, ok: ok} },
		func(r rules) answer { return r.at(at) },
	}
}

func strongCall(at int) call {
	return call{
		fmt.Sprintf("Strong(%d)", at),
		func(a *arena.Arena) answer { l, e := Strong(a, at); return answer{l: l, e: e} },
		func(r rules) answer { return r.strong(at) },
	}
}

func setStrongCall(at int, l []int) call {
	return call{
		fmt.Sprintf("SetStrong(%d, %v)", at, l),
		func(a *arena.Arena) answer { return answer{e: SetStrong(a, at, l)} },
		func(r rules) answer { return r.setStrong(at, l) },
	}
}

func walkCall(s api.Space) call {
	return call{
		fmt.Sprintf("Walk(%+v)", s),
		func(a *arena.Arena) answer { return answer{l: Walk(a, s)} },
		func(r rules) answer { return r.walk(s) },
	}
}

// places are those about the ends of so many words, and the least and the greatest ones.
func places(n int) []int {
	l := []int{minInt, minInt + 1, minInt + n, -1 << 32, -n, -3, -2, -1, n, n + 1, 2 * n, mostWords, 1 << 32, 1 << 62, maxInt - 20, maxInt - n, maxInt - 3, maxInt - 1, maxInt}
	for at := range n {
		l = append(l, at)
	}
	return l
}

// spaces are right ones about the ends of n words, with words taken and without, full ones, and such as begin far behind.
func spaces(n int) []api.Space {
	var l []api.Space
	for _, base := range []int{0, 1, 2, n / 2, n - 7, n - 6, n - 5, n - 1, n, n + 1, mostWords - 1, mostWords} {
		for _, size := range []int{0, 1, 3, 4, 5, 6, 7, 24, n, mostWords - 1, mostWords} {
			for _, top := range []int{0, 1, 4, size - 24, size - 8, size - 6, size - 4, size - 1, size} {
				s := api.Space{Base: base, Size: size, Top: base + top}
				if mayBe(s) {
					l = append(l, s)
				}
			}
		}
	}
	return l
}

// wrongSpaces are such as are not right, each in one way alone as far as may be.
func wrongSpaces() []api.Space {
	return []api.Space{
		{Base: -1, Size: 20, Top: -1}, {Base: -1, Size: 20, Top: 1}, {Base: 1, Size: -1, Top: 1}, {Base: 1, Size: -1, Top: 0}, {Base: 3, Size: 20, Top: 2}, {Base: 3, Size: 20, Top: 24}, {Base: 3, Size: 20, Top: -1},
		{Base: mostWords + 1, Size: 20, Top: mostWords + 1}, {Base: 1, Size: mostWords + 1, Top: 1}, {Base: 1, Size: mostWords + 1, Top: 7}, {Base: 0, Size: mostWords + 1, Top: 1},
		{Base: minInt, Size: 20, Top: minInt}, {Base: minInt, Size: 20, Top: 1}, {Base: 1, Size: minInt, Top: 1}, {Base: 1, Size: 20, Top: minInt}, {Base: 1, Size: 20, Top: maxInt},
		{Base: maxInt, Size: maxInt, Top: maxInt}, {Base: maxInt, Size: 20, Top: minInt}, {Base: maxInt - 10, Size: 20, Top: maxInt}, {Base: 1, Size: maxInt, Top: 1}, {Base: minInt, Size: minInt, Top: 0}, {Base: minInt, Size: maxInt, Top: 1}, {Base: maxInt, Size: minInt, Top: 1},
	}
}

// pointers are such as may be and such as may not, about their bounds and about where numbers go round.
func pointers() []int {
	return []int{0, 1, 2, mostWords, mostPlace - 1, mostPlace, mostPlace + 1, 2 * mostPlace, -1, -2, -mostPlace, 1 << 32, 1<<32 + 1, minInt, minInt + 1, maxInt}
}

// lists are n pointers that may be, such as are too few or too many, and such as have one in a place that may not be.
func lists(n int) [][]int {
	l := [][]int{nil, {}, {0}, {1}, {-1}, {mostPlace}, {mostPlace + 1}}
	for _, k := range []int{n - 1, n, n + 1, n + 8, 2 * n} {
		for _, p := range []int{1, mostPlace, mostPlace + 1, -1} {
			if k >= 0 {
				l = append(l, slices.Repeat([]int{p}, k))
			}
		}
	}
	for i := range n {
		for _, p := range pointers() {
			some := make([]int, n)
			for k := range some {
				some[k] = 300 + k
			}
			some[i] = p
			l = append(l, some)
		}
	}
	return l
}

// others are words that are no Head and no Gone, and such as are one but for a bit, and words that are a Gone to where no object may be.
func others() []uint64 {
	l := []uint64{0, 2, 3, 4, 5 + 512, 6, 7, 10, 82, goneTo(mostPlace), goneTo(mostPlace) + 1, goneTo(mostPlace + 1), goneTo(mostWords), 3 * 4, 100, 1 + 9*2, 1 + 9*32, 1 + 15*2 + 15*32, 1 + 512, 1 + 2 + 32 + 512, weak + 1024, high, high + bare, high + 6, all, all - 1}
	for _, w := range []uint64{bare, pair, weak, final, full, pair + freed, weak + freed, goneTo(5)} {
		for bit := range 64 {
			l = append(l, w^1<<bit)
		}
	}
	return l
}

// The chapter's example

func TestExample(t *testing.T) {
	l := append([]uint64{50}, objectOf(made{api.Shape{Ptrs: 1, Data: 1}, false})...)
	l = append(l, dirt(24)...)
	a := laid(t, l)
	s, at, e := Copy(a, 1, api.Space{Base: 20, Size: 10, Top: 20})
	if s != (api.Space{Base: 20, Size: 10, Top: 26}) || at != 20 || e != api.OK {
		t.Errorf("Copy: %+v, %d, error %d", s, at, e)
	}
	if at, ok := At(a, 1); at != 20 || !ok {
		t.Errorf("At: %d, %v", at, ok)
	}
	copy(l[20:], l[1:6])
	l[1] = 82
	check(t, "Copy", a, l...)
}

// M1

// TestCopyFits copies an object of each shape into a space that holds it to the last word, and into one that is one word short, in arenas in which just its words are there, and in which one more isn't.
func TestCopyFits(t *testing.T) {
	for m := range maps.Values(heads()) {
		size := sizeOf(m.s)
		for _, more := range []int{0, 1, rounded(size) - size, 30} {
			l := slices.Concat([]uint64{40}, objectOf(m), dirt(size+2), dirt(more))
			to := 1 + size + 2
			behind := slices.Clone(l)
			copy(behind[to:], objectOf(m))
			behind[1] = goneTo(to)
			for _, taken := range []int{0, 1, 2} {
				a := laid(t, l)
				s := api.Space{Base: to - taken, Size: rounded(size) + taken - 1, Top: to}
				if after, at, e := Copy(a, 1, s); after != s || at != 0 || e != api.ErrRoom {
					t.Errorf("Copy of %+v into %+v: %+v, %d, error %d", m, s, after, at, e)
				}
				check(t, "Copy with an error", a, l...)
				s.Size++
				want := api.Space{Base: s.Base, Size: s.Size, Top: to + rounded(size)}
				if after, at, e := Copy(a, 1, s); after != want || at != to || e != api.OK {
					t.Errorf("Copy of %+v into %+v: %+v, %d, error %d", m, s, after, at, e)
				}
				check(t, "Copy", a, behind...)
			}
			a := laid(t, l)
			s := api.Space{Base: to, Size: 100, Top: to + more + 1}
			if after, at, e := Copy(a, 1, s); after != s || at != 0 || e != api.ErrRoom {
				t.Errorf("Copy of %+v one word too far: %+v, %d, error %d", m, after, at, e)
			}
			check(t, "Copy one word too far", a, l...)
		}
	}
}

func TestCopyIntoSpacesThatAreNot(t *testing.T) {
	l := append(objectOf(made{api.Shape{}, false}), dirt(30)...)
	a := laid(t, l)
	for _, s := range wrongSpaces() {
		if after, at, e := Copy(a, 0, s); after != s || at != 0 || e != api.ErrRoom {
			t.Errorf("Copy into %+v: %+v, %d, error %d", s, after, at, e)
		}
		check(t, "Copy with an error", a, l...)
	}
}

func TestCopyToTheFirstPlace(t *testing.T) {
	l := append(dirt(10), objectOf(made{api.Shape{Ptrs: 1}, false})...)
	a := laid(t, l)
	s := api.Space{Base: 0, Size: 20, Top: 0}
	if after, at, e := Copy(a, 10, s); after != s || at != 0 || e != api.ErrRoom {
		t.Errorf("Copy to 0: %+v, %d, error %d", after, at, e)
	}
	check(t, "Copy to 0", a, l...)
	s.Top = 1
	if after, at, e := Copy(a, 10, s); after != (api.Space{Base: 0, Size: 20, Top: 5}) || at != 1 || e != api.OK {
		t.Errorf("Copy to 1: %+v, %d, error %d", after, at, e)
	}
	copy(l[1:], l[10:])
	l[10] = 6
	check(t, "Copy to 1", a, l...)
}

func TestCopyOfWhatIsGone(t *testing.T) {
	for _, where := range []int{1, 2, 4, 20, mostWords - 1, mostWords, mostPlace - 1, mostPlace} {
		l := []uint64{40, goneTo(where), bare, 8, 8}
		for _, s := range slices.Concat(spaces(5), wrongSpaces()) {
			a := laid(t, l)
			for range 3 {
				if after, at, e := Copy(a, 1, s); after != s || at != where || e != api.OK {
					t.Errorf("Copy of what is gone to %d into %+v: %+v, %d, error %d", where, s, after, at, e)
				}
			}
			check(t, "Copy of what is gone", a, l...)
		}
	}
}

// TestCopyErrorsOrder has what is no object ahead of what has no room, and where no word is ahead of both.
func TestCopyErrorsOrder(t *testing.T) {
	l := []uint64{bare, 8, 8, 44, bare, 8}
	a := laid(t, l)
	for _, x := range []struct {
		at   int
		s    api.Space
		want api.Errno
	}{
		{6, api.Space{Base: 1, Size: 10, Top: 1}, api.ErrAddr}, {-1, api.Space{Base: 1, Size: 10, Top: 1}, api.ErrAddr}, {minInt, api.Space{}, api.ErrAddr}, {maxInt, api.Space{}, api.ErrAddr}, {7, api.Space{Base: -1}, api.ErrAddr},
		{1, api.Space{}, api.ErrObject}, {4, api.Space{}, api.ErrObject}, {5, api.Space{}, api.ErrObject}, {4, api.Space{Base: 1, Size: 10, Top: 1}, api.ErrObject}, {3, api.Space{Base: -1}, api.ErrObject},
		{0, api.Space{}, api.ErrRoom}, {0, api.Space{Base: -1}, api.ErrRoom}, {0, api.Space{Base: 1, Size: 3, Top: 1}, api.ErrRoom}, {0, api.Space{Base: 4, Size: 4, Top: 4}, api.ErrRoom}, {0, api.Space{Base: 0, Size: 4, Top: 0}, api.ErrRoom},
	} {
		if after, at, e := Copy(a, x.at, x.s); after != x.s || at != 0 || e != x.want {
			t.Errorf("Copy(%d, %+v): %+v, %d, error %d, not %d", x.at, x.s, after, at, e, x.want)
		}
		check(t, "Copy with an error", a, l...)
	}
}

// TestCopyOntoItself lays an object of each size ahead of its own place, behind it and onto it, so that both have places in common.
func TestCopyOntoItself(t *testing.T) {
	heads := heads()
	for _, s := range fewShapes() {
		for _, is := range []bool{false, true} {
			size := sizeOf(s)
			l := slices.Concat(dirt(size+2), objectOf(made{s, is}), dirt(size+2))
			from := size + 2
			for to := 1; to < len(l); to++ {
				a := laid(t, l)
				behind := slices.Clone(l)
				want := answer{s: api.Space{Base: to, Size: 100, Top: to}, e: api.ErrRoom}
				if to+size <= len(l) {
					copy(behind[to:], l[from:from+size])
					behind[from] = goneTo(to)
					want = answer{s: api.Space{Base: to, Size: 100, Top: to + rounded(size)}, n: to}
				}
				after, at, e := Copy(a, from, api.Space{Base: to, Size: 100, Top: to})
				if got := (answer{s: after, n: at, e: e}); !same(got, want) {
					t.Errorf("Copy of %+v from %d to %d: %+v, not %+v", s, from, to, got, want)
				}
				check(t, "Copy", a, behind...)
				run(t, heads, behind, []call{atCall(from), atCall(to), strongCall(to), copyCall(from, api.Space{}), walkCall(api.Space{Base: to, Size: 100, Top: to + 50})})
			}
		}
	}
}

// TestCopyOntoTheVerySamePlace leaves an object that is gone to where it is: it goes on being so.
func TestCopyOntoTheVerySamePlace(t *testing.T) {
	l := append([]uint64{40}, objectOf(made{api.Shape{Ptrs: 1, Data: 1}, true})...)
	a := laid(t, l)
	s := api.Space{Base: 1, Size: 6, Top: 1}
	after, at, e := Copy(a, 1, s)
	if after != (api.Space{Base: 1, Size: 6, Top: 7}) || at != 1 || e != api.OK {
		t.Errorf("Copy: %+v, %d, error %d", after, at, e)
	}
	l[1] = 6
	check(t, "Copy", a, l...)
	if again, at, e := Copy(a, 1, after); again != after || at != 1 || e != api.OK {
		t.Errorf("Copy again: %+v, %d, error %d", again, at, e)
	}
	if got := Walk(a, after); len(got) != 0 {
		t.Errorf("Walk: %v", got)
	}
	check(t, "Copy again", a, l...)
}

// TestCopyOfEveryKind holds Copy at every place and of spaces of every kind against the rules.
func TestCopyOfEveryKind(t *testing.T) {
	heads := heads()
	for _, s := range fewShapes() {
		for _, is := range []bool{false, true} {
			l := slices.Concat([]uint64{40, 44}, took(made{s, is}), objectOf(made{api.Shape{}, false}))
			var calls []call
			for _, at := range []int{minInt, -1, 0, 1, 2, 3, len(l) - 3, len(l) - 1, len(l), len(l) + 1, maxInt} {
				for _, s := range slices.Concat(spaces(len(l)), wrongSpaces()) {
					calls = append(calls, copyCall(at, s))
				}
			}
			run(t, heads, l, calls)
		}
	}
}

func TestCopyInTheGreatestArena(t *testing.T) {
	l := append(objectOf(made{api.Shape{Ptrs: 8, Data: 8}, false}), make([]uint64, mostWords-19)...)
	a := laid(t, l)
	s := api.Space{Base: mostWords - 18, Size: mostWords, Top: mostWords - 18}
	if after, at, e := Copy(a, 0, s); after != s || at != 0 || e != api.ErrRoom {
		t.Errorf("Copy one word too far: %+v, %d, error %d", after, at, e)
	}
	s = api.Space{Base: mostWords - 19, Size: mostWords, Top: mostWords - 19}
	if after, at, e := Copy(a, 0, s); after != (api.Space{Base: mostWords - 19, Size: mostWords, Top: mostWords + 5}) || at != mostWords-19 || e != api.OK {
		t.Errorf("Copy: %+v, %d, error %d", after, at, e)
	}
	copy(l[mostWords-19:], l[:19])
	l[0] = goneTo(mostWords - 19)
	if !slices.Equal(words(t, a), l) {
		t.Errorf("the last words are %v", words(t, a)[mostWords-20:])
	}
}

// M2

func TestAt(t *testing.T) {
	heads := heads()
	for _, w := range others() {
		run(t, heads, []uint64{w}, []call{atCall(0)})
		run(t, heads, []uint64{8, w, 8, 8}, []call{atCall(0), atCall(1), atCall(2), copyCall(1, api.Space{Base: 1, Size: 10, Top: 1}), strongCall(1), setStrongCall(1, nil)})
	}
	for m := range maps.Values(heads) {
		run(t, heads, objectOf(m), []call{atCall(0), atCall(1), atCall(2)})
	}
	for _, where := range []int{1, 2, 5, 20, mostWords - 1, mostWords, mostWords + 1, mostPlace - 1, mostPlace} {
		a := laid(t, []uint64{40, goneTo(where), bare})
		for range 2 {
			if at, ok := At(a, 1); at != where || !ok {
				t.Errorf("At of what is gone to %d: %d, %v", where, at, ok)
			}
		}
		for _, at := range []int{0, 2, 3, 4, -1, -2, minInt, maxInt, 1 << 32, 1<<32 + 1} {
			if where, ok := At(a, at); where != 0 || ok {
				t.Errorf("At(%d): %d, %v", at, where, ok)
			}
		}
		check(t, "At", a, 40, goneTo(where), bare)
	}
}

// M3

// TestStrong tells and sets the pointers of objects of each shape that end with the last word, and of such as stand in the midst.
func TestStrong(t *testing.T) {
	heads := heads()
	for m := range maps.Values(heads) {
		n := m.s.Ptrs
		calls := []call{strongCall(1)}
		for _, l := range lists(n) {
			calls = append(calls, setStrongCall(1, l), strongCall(1))
		}
		run(t, heads, slices.Concat([]uint64{40}, objectOf(m)), calls)
		run(t, heads, slices.Concat([]uint64{40}, objectOf(m), []uint64{44, 48}), calls)
		runOne(t, heads, slices.Concat([]uint64{40}, objectOf(m), []uint64{44, 48}), calls)
	}
}

// TestStrongTellsBits has a pointer's word that no pointer may be told as Go's int has it.
func TestStrongTellsBits(t *testing.T) {
	a := laid(t, []uint64{1 + 2*3, 6, 8, all, high, 5})
	if l, e := Strong(a, 0); !slices.Equal(l, []int{-1, minInt, 5}) || e != api.OK {
		t.Errorf("Strong: %v, error %d", l, e)
	}
}

func TestStrongOfAWeakOne(t *testing.T) {
	for _, head := range []uint64{weak, weak + freed} {
		a := laid(t, []uint64{head, 6, 8, 100})
		if l, e := Strong(a, 0); len(l) != 0 || e != api.OK {
			t.Errorf("Strong: %v, error %d", l, e)
		}
		for _, l := range [][]int{nil, {}} {
			if e := SetStrong(a, 0, l); e != api.OK {
				t.Errorf("SetStrong: error %d", e)
			}
		}
		for _, l := range [][]int{{0}, {100}, {1, 2}, {-1}} {
			if e := SetStrong(a, 0, l); e != api.ErrArg {
				t.Errorf("SetStrong(%v): error %d", l, e)
			}
		}
		check(t, "SetStrong", a, head, 6, 8, 100)
	}
}

// TestStrongErrorsOrder has the place's error ahead of the list's.
func TestStrongErrorsOrder(t *testing.T) {
	heads := heads()
	for _, l := range [][]uint64{nil, {bare}, {bare, 8, 8}, {8, pair, 8, 8, 100, 200}, {8, goneTo(3), 8, pair, 8, 8, 100, 200}, {8, goneTo(1), 44}, {44, full, 8, 8}, {weak, 8, 8}} {
		for _, at := range places(len(l)) {
			run(t, heads, l, []call{strongCall(at), setStrongCall(at, nil), setStrongCall(at, []int{7}), setStrongCall(at, []int{-1}), setStrongCall(at, []int{7, mostPlace + 1}), atCall(at)})
		}
	}
}

// M4

func TestWalkOfNothing(t *testing.T) {
	l := slices.Concat(took(made{api.Shape{}, false}), took(made{api.Shape{}, true}))
	a := laid(t, l)
	for _, s := range append(wrongSpaces(), api.Space{}, api.Space{Base: 0, Size: 8}, api.Space{Base: 4, Size: 0, Top: 4}, api.Space{Base: 8, Size: 8, Top: 16}, api.Space{Base: mostWords, Size: mostWords, Top: 2 * mostWords}) {
		if got := Walk(a, s); len(got) != 0 {
			t.Errorf("Walk(%+v): %v", s, got)
		}
	}
	if got := Walk(new(arena.Arena), api.Space{Base: 0, Size: 8, Top: 8}); len(got) != 0 {
		t.Errorf("Walk without words: %v", got)
	}
	check(t, "Walk", a, l...)
}

// row is the words of objects that stand one behind the other, and their places, from base on.
func row(base int, l []made) ([]uint64, []int) {
	var words []uint64
	var places []int
	for _, m := range l {
		places = append(places, base+len(words))
		words = append(words, took(m)...)
	}
	return words, places
}

// TestWalk goes through objects of every shape, one behind the other, up to each Top.
func TestWalk(t *testing.T) {
	var l []made
	for _, s := range shapes() {
		l = append(l, made{s, len(l)%3 == 0})
	}
	objects, places := row(5, l)
	a := laid(t, slices.Concat(dirt(5), objects, []uint64{44}))
	for top := 5; top <= 5+len(objects)+9; top++ {
		var want []int
		for _, at := range places {
			if at < top {
				want = append(want, at)
			}
		}
		for _, size := range []int{top - 5, top, mostWords} {
			if got := Walk(a, api.Space{Base: 5, Size: size, Top: top}); !slices.Equal(got, want) {
				t.Errorf("Walk up to %d: %v, not %v", top, got, want)
			}
		}
	}
}

// TestWalkEnds has a word that is no object's among objects, and the arena's end.
func TestWalkEnds(t *testing.T) {
	heads := heads()
	first, _ := row(0, []made{{api.Shape{Ptrs: 1, Data: 1}, false}, {api.Shape{Ptrs: 1, Weak: true}, true}})
	for _, w := range others() {
		l := slices.Concat(first, []uint64{w, 8, 8, 44}, first)
		for _, top := range []int{0, 1, 6, 9, 10, 11, 14, 15, len(l), len(l) + 1, mostWords} {
			run(t, heads, l, []call{walkCall(api.Space{Base: 0, Size: mostWords, Top: top})})
		}
	}
	for _, s := range fewShapes() {
		words := objectOf(made{s, false})
		for n := range len(words) + 1 {
			run(t, heads, slices.Concat(first, words[:n]), []call{
				walkCall(api.Space{Base: 0, Size: 100, Top: 100}), walkCall(api.Space{Base: 0, Size: 100, Top: 10}), walkCall(api.Space{Base: 0, Size: 11, Top: 11}), walkCall(api.Space{Base: 10, Size: 11, Top: 11}), walkCall(api.Space{Base: 10, Size: 30, Top: 40}),
			})
		}
	}
}

// TestWalkOverWhatIsGone has an object of each size gone: to where another space is, to where no object stands, to beyond the arena, to one that is gone again, and to itself.
func TestWalkOverWhatIsGone(t *testing.T) {
	last := made{api.Shape{Data: 2, Final: true}, false}
	for m := range maps.Values(heads()) {
		l := slices.Concat([]uint64{goneTo(40)}, took(m)[1:], took(last))
		behind := rounded(sizeOf(m.s))
		for len(l) < 40 {
			l = append(l, 44)
		}
		l = append(l, objectOf(m)...)
		a := laid(t, l)
		s := api.Space{Base: 0, Size: 100, Top: behind + 1}
		if got := Walk(a, s); !slices.Equal(got, []int{0, behind}) {
			t.Errorf("Walk over %+v: %v", m, got)
		}
		for _, w := range []uint64{goneTo(38), goneTo(41), goneTo(len(l)), goneTo(mostPlace), goneTo(1 << 32), goneTo(40) + 2, goneTo(40) - 2, 2} {
			a.Store(0, w)
			if got := Walk(a, s); len(got) != 0 {
				t.Errorf("Walk over %+v that is %d: %v", m, w, got)
			}
		}
		a.Store(0, 6)
		a.Store(1, goneTo(40))
		if got := Walk(a, s); len(got) != 0 {
			t.Errorf("Walk over %+v that is gone again: %v", m, got)
		}
		// From one behind it is gone but once.
		if got := Walk(a, api.Space{Base: 1, Size: 100, Top: 2}); !slices.Equal(got, []int{1}) {
			t.Errorf("Walk from there: %v", got)
		}
	}
}

// TestWalkOverWhatIsGoneIntoTheSameSpace has objects of another size told where they stand, and where they are gone from.
func TestWalkOverWhatIsGoneIntoTheSameSpace(t *testing.T) {
	l, places := row(2, []made{{api.Shape{Ptrs: 1, Data: 1}, false}, {api.Shape{}, true}, {api.Shape{Ptrs: 1, Weak: true}, false}, {api.Shape{Ptrs: 8, Data: 8}, false}})
	l = slices.Concat(dirt(2), l, dirt(40))
	a := laid(t, l)
	s := api.Space{Base: 2, Size: 78, Top: places[3] + 24}
	want := slices.Clone(places)
	for _, at := range []int{places[2], places[0], places[3]} {
		after, to, e := Copy(a, at, s)
		if e != api.OK {
			t.Fatalf("Copy(%d): error %d", at, e)
		}
		s, want = after, append(want, to)
		if got := Walk(a, s); !slices.Equal(got, want) {
			t.Errorf("Walk: %v, not %v", got, want)
		}
	}
	// What was copied first is copied on, so that where it was at first it is gone again: there the walk ends.
	after, to, e := Copy(a, places[2], s)
	if after != s || to != want[4] || e != api.OK {
		t.Errorf("Copy of what is gone: %+v, %d, error %d", after, to, e)
	}
	if after, to, e = Copy(a, to, s); after.Top != s.Top+4 || to != s.Top || e != api.OK {
		t.Errorf("Copy on: %+v, %d, error %d", after, to, e)
	}
	if got := Walk(a, after); !slices.Equal(got, places[:2]) {
		t.Errorf("Walk: %v", got)
	}
}

// M5

// TestWhatIsCopiedIsAsItWas copies objects of all shapes into an empty space, and walks there.
func TestWhatIsCopiedIsAsItWas(t *testing.T) {
	var l []made
	for _, s := range shapes() {
		l = append(l, made{s, false}, made{s, true})
	}
	objects, places := row(1, l)
	n := len(objects)
	a := laid(t, slices.Concat([]uint64{40}, objects, dirt(n)))
	s := api.Space{Base: 1 + n, Size: n, Top: 1 + n}
	var want []int
	for k := range l {
		// By a stride, so that they come in another order.
		at := places[k*5%len(l)]
		after, to, e := Copy(a, at, s)
		if to != s.Top || after.Base != s.Base || after.Size != s.Size || e != api.OK {
			t.Fatalf("Copy(%d): %+v, %d, error %d", at, after, to, e)
		}
		s, want = after, append(want, to)
		if again, where, e := Copy(a, at, s); again != s || where != to || e != api.OK {
			t.Errorf("Copy(%d) again: %+v, %d, error %d", at, again, where, e)
		}
		if got := Walk(a, s); !slices.Equal(got, want) {
			t.Fatalf("Walk: %v, not %v", got, want)
		}
	}
	if s.Top != 1+2*n {
		t.Errorf("up to %d is taken, not up to %d", s.Top, 1+2*n)
	}
	if got := Walk(a, api.Space{Base: 1, Size: n, Top: 1 + n}); !slices.Equal(got, places) {
		t.Errorf("Walk of where they were: %v, not %v", got, places)
	}
	now := words(t, a)
	for k := range l {
		m := l[k*5%len(l)]
		if got := now[want[k] : want[k]+sizeOf(m.s)]; !slices.Equal(got, objectOf(m)) {
			t.Errorf("%+v is %v there, not %v", m, got, objectOf(m))
		}
	}
}

// TestCopiedOn copies an object, copies it on from where it stands, and asks for it at each place.
func TestCopiedOn(t *testing.T) {
	for m := range maps.Values(heads()) {
		size := sizeOf(m.s)
		a := laid(t, slices.Concat([]uint64{40}, objectOf(m), dirt(80)))
		at := 1
		for _, to := range []int{30, 60, 30, 1} {
			s := api.Space{Base: to, Size: 24, Top: to}
			after, where, e := Copy(a, at, s)
			if after.Top != to+rounded(size) || where != to || e != api.OK {
				t.Errorf("Copy of %+v from %d to %d: %+v, %d, error %d", m, at, to, after, where, e)
			}
			if got, ok := At(a, at); got != to || !ok {
				t.Errorf("At(%d): %d, %v", at, got, ok)
			}
			if got := words(t, a)[to : to+size]; !slices.Equal(got, objectOf(m)) {
				t.Errorf("%+v is %v at %d", m, got, to)
			}
			at = to
		}
	}
}

// TestOneCallBehindTheOther holds many calls, one behind the other, against the rules; they are picked by a rule of their own, so that they come the same each time.
func TestOneCallBehindTheOther(t *testing.T) {
	heads := heads()
	l, places := row(1, []made{{api.Shape{Ptrs: 1, Data: 1}, false}, {api.Shape{}, true}, {api.Shape{Ptrs: 1, Weak: true}, false}, {api.Shape{Ptrs: 3, Data: 2, Final: true}, false}, {api.Shape{Ptrs: 2}, false}})
	l = slices.Concat([]uint64{40}, l, dirt(60))
	for start := range 300 {
		x := uint64(start)*2 + 1
		pick := func(n int) int {
			x = x*6364136223846793005 + 1442695040888963407
			return int(x >> 33 % uint64(n))
		}
		var calls []call
		for range 40 {
			at := pick(len(l))
			if pick(3) > 0 {
				at = places[pick(len(places))]
			}
			base := pick(len(l))
			s := api.Space{Base: base, Size: pick(60), Top: base + pick(20)}
			switch pick(6) {
			case 0, 1:
				calls = append(calls, copyCall(at, s), atCall(at))
			case 2:
				calls = append(calls, setStrongCall(at, []int{1, pick(100), pick(2 * mostPlace)}[:pick(4)]), strongCall(at))
			case 3:
				calls = append(calls, walkCall(api.Space{Base: 1, Size: len(l), Top: pick(len(l)) + 1}))
			default:
				calls = append(calls, walkCall(s), atCall(at))
			}
		}
		runOne(t, heads, l, calls)
	}
}

// R3

func TestListsAreNewMemory(t *testing.T) {
	l := slices.Concat(took(made{api.Shape{Ptrs: 3}, false}), took(made{api.Shape{Ptrs: 2}, false}))
	a := laid(t, l)
	for range 2 {
		strong, _ := Strong(a, 0)
		walk := Walk(a, api.Space{Base: 0, Size: 12, Top: 12})
		if !slices.Equal(strong, []int{100, 104, 108}) || !slices.Equal(walk, []int{0, 6}) {
			t.Errorf("Strong: %v, Walk: %v", strong, walk)
		}
		other, _ := Strong(a, 0)
		again := Walk(a, api.Space{Base: 0, Size: 12, Top: 12})
		for _, x := range []*[]int{&strong, &walk} {
			for i := range *x {
				(*x)[i] = -5
			}
			*x = append(*x, -5, -5, -5, -5)
		}
		if !slices.Equal(other, []int{100, 104, 108}) || !slices.Equal(again, []int{0, 6}) {
			t.Errorf("Strong: %v, Walk: %v", other, again)
		}
		check(t, "Strong", a, l...)
	}
}

func TestListsAreNotKeptOrWritten(t *testing.T) {
	a := laid(t, took(made{api.Shape{Ptrs: 3}, false}))
	spare := []int{7, 8, 9, 10, 11}
	if e := SetStrong(a, 0, spare[:3]); e != api.OK {
		t.Errorf("SetStrong: error %d", e)
	}
	if e := SetStrong(a, 0, spare[:2]); e != api.ErrArg {
		t.Errorf("SetStrong: error %d", e)
	}
	if !slices.Equal(spare, []int{7, 8, 9, 10, 11}) {
		t.Errorf("the list is %v", spare)
	}
	spare[0] = 77
	check(t, "SetStrong", a, 7, 6, 1000, 7, 8, 9)
}

// R4

func TestAnswersHangOnTheArenaAlone(t *testing.T) {
	l := slices.Concat([]uint64{40}, took(made{api.Shape{Ptrs: 1}, false}), dirt(8))
	a, other := laid(t, l), laid(t, l)
	s := api.Space{Base: 5, Size: 8, Top: 5}
	if _, at, e := Copy(a, 1, s); at != 5 || e != api.OK {
		t.Errorf("Copy: %d, error %d", at, e)
	}
	check(t, "Copy in another arena", other, l...)
	if e := SetStrong(other, 1, []int{9}); e != api.OK {
		t.Errorf("SetStrong: error %d", e)
	}
	if got, e := Strong(a, 5); !slices.Equal(got, []int{100}) || e != api.OK {
		t.Errorf("Strong: %v, error %d", got, e)
	}
	if _, ok := At(other, 1); ok {
		t.Errorf("At in another arena tells a place")
	}
	for range 3 {
		if got := Walk(a, api.Space{Base: 1, Size: 20, Top: 9}); !slices.Equal(got, []int{1, 5}) {
			t.Errorf("Walk: %v", got)
		}
	}
}
