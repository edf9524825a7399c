package object

import (
	"fmt"
	"math"
	"slices"
	"testing"

	"middenheap/api"
	"middenheap/arena"
)

// The bounds are written out, as are the words below: nothing of the program is held against itself.
const (
	mostField  = 8
	mostPlace  = 1 << 17
	mostSerial = 1 << 40
	mostWords  = 1 << 16
	all        = ^uint64(0)
	high       = uint64(1) << 63
	maxInt     = math.MaxInt
	minInt     = math.MinInt
)

// The words of a few objects' shapes: a Head is 1, 2 times the pointers, 32 times the numbers, and 512, 1024, 2048 of a weak one, of one to be finalized, of one that is freed.
const (
	bare  = 1
	pair  = 1 + 2 + 32
	weak  = 1 + 2 + 512
	final = 1 + 2*2 + 32*3 + 1024
	full  = 1 + 2*8 + 32*8
	freed = 2048
)

// made is what a Head is made of.
type made struct {
	s     api.Shape
	freed bool
}

// mayBe is the condition of chapter 6 that a shape is right, word for word.
func mayBe(s api.Shape) bool {
	if s.Ptrs < 0 || s.Ptrs > mostField || s.Data < 0 || s.Data > mostField {
		return false
	}
	return !s.Weak || s.Ptrs == 1 && s.Data == 0 && !s.Final
}

// headOf is a Head as a sum.
func headOf(m made) uint64 {
	w := 1 + 2*uint64(m.s.Ptrs) + 32*uint64(m.s.Data)
	for _, x := range []struct {
		is  bool
		bit uint64
	}{{m.s.Weak, 512}, {m.s.Final, 1024}, {m.freed, freed}} {
		if x.is {
			w += x.bit
		}
	}
	return w
}

// sizeOf is how many words an object of a right shape has.
func sizeOf(s api.Shape) int { return 3 + s.Ptrs + s.Data }

// shapes are all right ones.
func shapes() []api.Shape {
	l := []api.Shape{{Ptrs: 1, Weak: true}}
	for ptrs := range mostField + 1 {
		for data := range mostField + 1 {
			l = append(l, api.Shape{Ptrs: ptrs, Data: data}, api.Shape{Ptrs: ptrs, Data: data, Final: true})
		}
	}
	return l
}

// wrongShapes are such as are not right, each in one way alone as far as may be.
func wrongShapes() []api.Shape {
	return []api.Shape{
		{Ptrs: 9}, {Data: 9}, {Ptrs: -1}, {Data: -1}, {Ptrs: 9, Data: -1}, {Ptrs: -1, Data: 9}, {Ptrs: -1, Data: 1}, {Ptrs: 1, Data: -1},
		{Ptrs: 9, Final: true}, {Data: 9, Final: true}, {Ptrs: -1, Final: true}, {Ptrs: 16}, {Data: 16}, {Ptrs: 17, Data: 17}, {Ptrs: 256},
		{Weak: true}, {Ptrs: 2, Weak: true}, {Ptrs: 1, Data: 1, Weak: true}, {Data: 1, Weak: true}, {Ptrs: 1, Weak: true, Final: true},
		{Ptrs: 8, Weak: true}, {Ptrs: 9, Weak: true}, {Ptrs: -1, Weak: true}, {Weak: true, Final: true}, {Ptrs: 1, Data: -1, Weak: true},
		{Ptrs: minInt}, {Data: minInt}, {Ptrs: maxInt}, {Data: maxInt}, {Ptrs: minInt, Data: minInt}, {Ptrs: maxInt, Data: maxInt}, {Ptrs: maxInt, Data: minInt},
	}
}

// heads are all words that are a Head.
func heads() map[uint64]made {
	l := make(map[uint64]made)
	for _, s := range shapes() {
		for _, is := range []bool{false, true} {
			l[headOf(made{s, is})] = made{s, is}
		}
	}
	return l
}

// zig is chapter 1's Zig, by its two cases; of an n below 0, -2n-1 is 2 times what n is short of -1, and 1.
func zig(n int) uint64 {
	if n >= 0 {
		return 2 * uint64(n)
	}
	return 2*uint64(-(n+1)) + 1
}

// zag is the n of which w is zig.
func zag(w uint64) int {
	if w%2 == 0 {
		return int(w / 2)
	}
	return -int(w/2) - 1
}

// laid is an arena of these words, which may be none.
func laid(t *testing.T, words []uint64) *arena.Arena {
	t.Helper()
	if len(words) == 0 {
		return new(arena.Arena)
	}
	a, e := arena.New(len(words))
	if e != api.OK {
		t.Fatalf("New(%d): %d", len(words), e)
	}
	for at, w := range words {
		if e := a.Store(at, w); e != api.OK {
			t.Fatalf("Store(%d): %d", at, e)
		}
	}
	return a
}

// dirty is an arena of so many words, none of which is 0, or a Head.
func dirty(t *testing.T, words int) *arena.Arena {
	t.Helper()
	var l []uint64
	for at := range words {
		l = append(l, all-2*uint64(at))
	}
	return laid(t, l)
}

// words is what an arena's words are.
func words(t *testing.T, a *arena.Arena) []uint64 {
	t.Helper()
	var l []uint64
	for at := range a.Len() {
		w, e := a.Load(at)
		if e != api.OK {
			t.Fatalf("Load(%d): %d", at, e)
		}
		l = append(l, w)
	}
	return l
}

// check holds an arena's words against a list.
func check(t *testing.T, a *arena.Arena, want ...uint64) {
	t.Helper()
	if got := words(t, a); !slices.Equal(got, want) {
		t.Errorf("the words are %v, not %v", got, want)
	}
}

// checkError holds an error against the one that is asked for.
func checkError(t *testing.T, what string, got, want api.Errno) {
	t.Helper()
	if got != want {
		t.Errorf("%s: error %d, not %d", what, got, want)
	}
}

// answer is all that a call may answer.
type answer struct {
	s     api.Shape
	freed bool
	n     int
	w     uint64
	e     api.Errno
}

// rules is the chapter, word for word, on a list of words.
type rules struct {
	heads map[uint64]made
	l     []uint64
}

// lies tells whether n words from a place on are there.
func (r rules) lies(at, n int) bool { return at >= 0 && at < len(r.l) && len(r.l)-at >= n }

func (r rules) make(at int, s api.Shape, serial int) answer {
	if !mayBe(s) || serial < 0 || serial > mostSerial {
		return answer{e: api.ErrArg}
	}
	if !r.lies(at, sizeOf(s)) {
		return answer{e: api.ErrAddr}
	}
	for i := range sizeOf(s) {
		r.l[at+i] = 0
	}
	r.l[at] = headOf(made{s, false})
	r.l[at+2] = uint64(serial)
	return answer{}
}

// object is what stands at a place.
func (r rules) object(at int) (made, api.Errno) {
	if !r.lies(at, 1) {
		return made{}, api.ErrAddr
	}
	m, ok := r.heads[r.l[at]]
	if !ok || !r.lies(at, sizeOf(m.s)) {
		return made{}, api.ErrObject
	}
	return m, api.OK
}

func (r rules) shape(at int) answer {
	m, e := r.object(at)
	return answer{s: m.s, freed: m.freed, e: e}
}

func (r rules) serial(at int) answer {
	if _, e := r.object(at); e != api.OK {
		return answer{e: e}
	}
	return answer{n: int(r.l[at+2])}
}

func (r rules) second(at int) answer {
	if _, e := r.object(at); e != api.OK {
		return answer{e: e}
	}
	return answer{w: r.l[at+1]}
}

// field is the place of a pointer, or of a number.
func (r rules) field(at, i int, isNum bool) (int, api.Errno) {
	m, e := r.object(at)
	if e != api.OK {
		return 0, e
	}
	first, n := at+3, m.s.Ptrs
	if isNum {
		first, n = at+3+m.s.Ptrs, m.s.Data
	}
	if i < 0 || i >= n {
		return 0, api.ErrField
	}
	return first + i, api.OK
}

func (r rules) ptr(at, i int) answer {
	place, e := r.field(at, i, false)
	if e != api.OK {
		return answer{e: e}
	}
	return answer{n: int(r.l[place])}
}

func (r rules) num(at, i int) answer {
	place, e := r.field(at, i, true)
	if e != api.OK {
		return answer{e: e}
	}
	return answer{n: zag(r.l[place])}
}

func (r rules) setPtr(at, i, p int) answer {
	place, e := r.field(at, i, false)
	if e != api.OK {
		return answer{e: e}
	}
	if p < 0 || p > mostPlace {
		return answer{e: api.ErrArg}
	}
	r.l[place] = uint64(p)
	return answer{}
}

func (r rules) setNum(at, i, n int) answer {
	place, e := r.field(at, i, true)
	if e != api.OK {
		return answer{e: e}
	}
	r.l[place] = zig(n)
	return answer{}
}

func (r rules) setFreed(at int, is bool) answer {
	m, e := r.object(at)
	if e != api.OK {
		return answer{e: e}
	}
	r.l[at] = headOf(made{m.s, is})
	return answer{}
}

func (r rules) setSecond(at int, w uint64) answer {
	if _, e := r.object(at); e != api.OK {
		return answer{e: e}
	}
	r.l[at+1] = w
	return answer{}
}

// call is one call on an arena, and the rules' on its words.
type call struct {
	name string
	do   func(a *arena.Arena) answer
	want func(r rules) answer
}

// run holds calls against the rules, each on an arena of its own: what it answers, and what the words are behind it.
func run(t *testing.T, heads map[uint64]made, l []uint64, calls []call) {
	t.Helper()
	a := laid(t, l)
	for _, c := range calls {
		behind := slices.Clone(l)
		want := c.want(rules{heads, behind})
		if got := c.do(a); got != want {
			t.Errorf("%s on %v: %+v, not %+v", c.name, l, got, want)
		}
		if got := words(t, a); !slices.Equal(got, behind) {
			t.Errorf("behind %s on %v: %v, not %v", c.name, l, got, behind)
		}
		if !slices.Equal(words(t, a), l) {
			a = laid(t, l)
		}
	}
}

// makes are calls of Make at a place.
func makes(at int) []call {
	var l []call
	for _, s := range slices.Concat(shapes(), wrongShapes()) {
		for _, serial := range serials() {
			l = append(l, call{
				fmt.Sprintf("Make(%d, %+v, %d)", at, s, serial),
				func(a *arena.Arena) answer { return answer{e: Make(a, at, s, serial)} },
				func(r rules) answer { return r.make(at, s, serial) },
			})
		}
	}
	return l
}

// heading are calls at a place that go to the words ahead of the fields.
func heading(at int) []call {
	l := []call{
		{
			fmt.Sprintf("Shape(%d)", at),
			func(a *arena.Arena) answer { s, is, e := Shape(a, at); return answer{s: s, freed: is, e: e} },
			func(r rules) answer { return r.shape(at) },
		},
		{
			fmt.Sprintf("Serial(%d)", at),
			func(a *arena.Arena) answer { n, e := Serial(a, at); return answer{n: n, e: e} },
			func(r rules) answer { return r.serial(at) },
		},
		{
			fmt.Sprintf("Second(%d)", at),
			func(a *arena.Arena) answer { w, e := Second(a, at); return answer{w: w, e: e} },
			func(r rules) answer { return r.second(at) },
		},
	}
	for _, is := range []bool{false, true} {
		l = append(l, call{
			fmt.Sprintf("SetFreed(%d, %v)", at, is),
			func(a *arena.Arena) answer { return answer{e: SetFreed(a, at, is)} },
			func(r rules) answer { return r.setFreed(at, is) },
		})
	}
	for _, w := range seconds() {
		l = append(l, call{
			fmt.Sprintf("SetSecond(%d, %d)", at, w),
			func(a *arena.Arena) answer { return answer{e: SetSecond(a, at, w)} },
			func(r rules) answer { return r.setSecond(at, w) },
		})
	}
	return l
}

// fields are calls at a place that go to the field i.
func fields(at, i int) []call {
	l := []call{
		{
			fmt.Sprintf("Ptr(%d, %d)", at, i),
			func(a *arena.Arena) answer { n, e := Ptr(a, at, i); return answer{n: n, e: e} },
			func(r rules) answer { return r.ptr(at, i) },
		},
		{
			fmt.Sprintf("Num(%d, %d)", at, i),
			func(a *arena.Arena) answer { n, e := Num(a, at, i); return answer{n: n, e: e} },
			func(r rules) answer { return r.num(at, i) },
		},
	}
	for _, p := range ptrs() {
		l = append(l, call{
			fmt.Sprintf("SetPtr(%d, %d, %d)", at, i, p),
			func(a *arena.Arena) answer { return answer{e: SetPtr(a, at, i, p)} },
			func(r rules) answer { return r.setPtr(at, i, p) },
		})
	}
	for _, n := range nums() {
		l = append(l, call{
			fmt.Sprintf("SetNum(%d, %d, %d)", at, i, n),
			func(a *arena.Arena) answer { return answer{e: SetNum(a, at, i, n)} },
			func(r rules) answer { return r.setNum(at, i, n) },
		})
	}
	return l
}

// serials are those about their bounds, and about where numbers go round.
func serials() []int {
	return []int{minInt, -mostSerial, -1, 0, 1, 7, mostSerial - 1, mostSerial, mostSerial + 1, 2 * mostSerial, maxInt}
}

// seconds are second words of every kind: free since a version, held by a thread, and neither.
func seconds() []uint64 {
	return []uint64{0, 2, 14, 2*mostSerial - 2, 2 * mostSerial, 1, 3, 15, 17, 2*mostSerial + 2, 2*mostSerial + 1, pair, weak + freed, 82, high, high + 1, all - 1, all}
}

// ptrs are pointers about their bounds, and about where numbers go round.
func ptrs() []int {
	return []int{minInt, minInt + 1, -mostPlace, -2, -1, 0, 1, 2, mostWords - 1, mostWords, mostPlace - 1, mostPlace, mostPlace + 1, 2 * mostPlace, 1 << 32, 1<<32 + 1, maxInt}
}

// nums are numbers about 0, and about where numbers go round.
func nums() []int {
	return []int{minInt, minInt + 1, -1 << 62, -1<<62 - 1, -1 << 32, -2, -1, 0, 1, 2, 1_000_000, 1 << 32, 1<<62 - 1, 1 << 62, maxInt - 1, maxInt}
}

// places are those about the ends of so many words, and the least and the greatest ones.
func places(n int) []int {
	l := []int{minInt, minInt + 1, minInt + n, -1 << 32, -n, -3, -2, -1, n, n + 1, 2 * n, mostWords, 1 << 32, 1 << 62, maxInt - 20, maxInt - n, maxInt - 3, maxInt - 1, maxInt}
	for at := range n {
		l = append(l, at)
	}
	return l
}

// indexes are fields' places: each that may be, those about, and those that lie elsewhere by where numbers go round.
func indexes() []int {
	return []int{minInt, minInt + 1, minInt + 3, -1 << 32, -8, -4, -3, -2, -1, 0, 1, 2, 3, 4, 5, 6, 7, 8, 9, 16, 1 << 32, 1 << 62, maxInt - 3, maxInt - 1, maxInt}
}

// object is the words of an object whose second word, serial and fields are each another one.
func object(m made) []uint64 {
	l := []uint64{headOf(m), 6, 1000}
	for i := range m.s.Ptrs {
		l = append(l, uint64(100+i))
	}
	for i := range m.s.Data {
		l = append(l, uint64(201+i))
	}
	return l
}

// notHeads are words that are no Head, and such as are one but for a bit.
func notHeads(heads map[uint64]made) []uint64 {
	l := []uint64{0, 2, 4, 6, 82, 4*mostPlace + 2, 4*mostPlace + 6, 3 * 4, 100, mostPlace, 1 + 9*2, 1 + 9*32, 1 + 15*2 + 15*32, 1 + 512, 1 + 2 + 32 + 512, 1 + 2*2 + 512, weak + 1024, weak + 1024 + freed, high, high + bare, all, all - 1}
	for _, head := range []uint64{bare, pair, weak, final, full, pair + freed, weak + freed} {
		for bit := range 64 {
			l = append(l, head^1<<bit)
		}
	}
	return slices.DeleteFunc(l, func(w uint64) bool { _, ok := heads[w]; return ok })
}

// The chapter's example

func TestExample(t *testing.T) {
	a := laid(t, make([]uint64, 5))
	checkError(t, "Make", Make(a, 0, api.Shape{Ptrs: 1, Data: 1}, 7), api.OK)
	check(t, a, 35, 0, 7, 0, 0)
}

// O1

func TestMake(t *testing.T) {
	for _, s := range shapes() {
		for _, at := range []int{0, 1, 5} {
			for _, behind := range []int{0, 1, 7} {
				n := at + sizeOf(s) + behind
				a := dirty(t, n)
				want := words(t, a)
				for i := range sizeOf(s) {
					want[at+i] = 0
				}
				want[at], want[at+2] = headOf(made{s, false}), 9
				checkError(t, fmt.Sprintf("Make(%d, %+v) of %d words", at, s, n), Make(a, at, s, 9), api.OK)
				check(t, a, want...)
			}
		}
	}
}

func TestMakeBeyondTheEnd(t *testing.T) {
	for _, s := range shapes() {
		for n := range sizeOf(s) + 8 {
			a := dirty(t, n)
			was := words(t, a)
			for _, at := range places(n) {
				if at >= 0 && at+sizeOf(s) >= 0 && at+sizeOf(s) <= n {
					continue
				}
				checkError(t, fmt.Sprintf("Make(%d, %+v) of %d words", at, s, n), Make(a, at, s, 9), api.ErrAddr)
				check(t, a, was...)
			}
		}
	}
}

func TestMakeAtEdges(t *testing.T) {
	a := dirty(t, 10)
	was := words(t, a)
	for _, x := range []struct {
		at     int
		s      api.Shape
		serial int
		want   api.Errno
	}{
		{8, api.Shape{}, 1, api.ErrAddr}, {9, api.Shape{}, 1, api.ErrAddr}, {10, api.Shape{}, 1, api.ErrAddr}, {11, api.Shape{}, 1, api.ErrAddr},
		{-1, api.Shape{}, 1, api.ErrAddr}, {-3, api.Shape{}, 1, api.ErrAddr}, {minInt, api.Shape{}, 1, api.ErrAddr}, {maxInt, api.Shape{}, 1, api.ErrAddr},
		{maxInt - 2, api.Shape{}, 1, api.ErrAddr}, {maxInt - 3, api.Shape{}, 1, api.ErrAddr}, {6, api.Shape{Ptrs: 1, Data: 1}, 1, api.ErrAddr},
		{7, api.Shape{Ptrs: 1, Weak: true}, 1, api.ErrAddr}, {7, api.Shape{Data: 1, Final: true}, 1, api.ErrAddr}, {0, api.Shape{Ptrs: 8}, 1, api.ErrAddr},
		{0, api.Shape{}, -1, api.ErrArg}, {0, api.Shape{}, mostSerial + 1, api.ErrArg}, {0, api.Shape{}, minInt, api.ErrArg}, {0, api.Shape{}, maxInt, api.ErrArg},
		{0, api.Shape{Ptrs: 9}, 1, api.ErrArg}, {0, api.Shape{Ptrs: -1}, 1, api.ErrArg}, {0, api.Shape{Weak: true}, 1, api.ErrArg},
		{0, api.Shape{Ptrs: 1, Weak: true, Final: true}, 1, api.ErrArg}, {0, api.Shape{Ptrs: 1, Data: 1, Weak: true}, 1, api.ErrArg},
		{0, api.Shape{Data: 9}, -1, api.ErrArg}, {10, api.Shape{}, -1, api.ErrArg}, {-1, api.Shape{}, mostSerial + 1, api.ErrArg},
		{10, api.Shape{Ptrs: 9}, 1, api.ErrArg}, {-1, api.Shape{Data: -1}, 1, api.ErrArg}, {minInt, api.Shape{Ptrs: 9}, -1, api.ErrArg},
		{maxInt, api.Shape{Ptrs: 2, Weak: true}, mostSerial + 1, api.ErrArg}, {8, api.Shape{}, -1, api.ErrArg}, {8, api.Shape{Ptrs: 9}, 0, api.ErrArg},
	} {
		checkError(t, fmt.Sprintf("Make(%d, %+v, %d)", x.at, x.s, x.serial), Make(a, x.at, x.s, x.serial), x.want)
		check(t, a, was...)
	}
}

func TestMakeOfSerials(t *testing.T) {
	for _, serial := range serials() {
		a := dirty(t, 4)
		was := words(t, a)
		if e := Make(a, 1, api.Shape{}, serial); serial < 0 || serial > mostSerial {
			checkError(t, fmt.Sprintf("Make of serial %d", serial), e, api.ErrArg)
			check(t, a, was...)
		} else {
			checkError(t, fmt.Sprintf("Make of serial %d", serial), e, api.OK)
			check(t, a, was[0], 1, 0, uint64(serial))
		}
	}
}

func TestMakeOverAnObject(t *testing.T) {
	a := laid(t, append(object(made{api.Shape{Ptrs: 3, Data: 2, Final: true}, true}), 77))
	checkError(t, "Make", Make(a, 0, api.Shape{Ptrs: 1, Weak: true}, 5), api.OK)
	check(t, a, weak, 0, 5, 0, 101, 102, 201, 202, 77)
	checkError(t, "Make in the midst of it", Make(a, 2, api.Shape{Data: 1}, mostSerial), api.OK)
	check(t, a, weak, 0, 33, 0, mostSerial, 0, 201, 202, 77)
	checkError(t, "Make again", Make(a, 2, api.Shape{Ptrs: 2, Data: 1}, 0), api.OK)
	check(t, a, weak, 0, 37, 0, 0, 0, 0, 0, 77)
	checkError(t, "Make beyond the end", Make(a, 4, api.Shape{Ptrs: 2, Data: 1}, 0), api.ErrAddr)
	check(t, a, weak, 0, 37, 0, 0, 0, 0, 0, 77)
}

func TestMakeOfEveryKind(t *testing.T) {
	heads := heads()
	for _, at := range []int{minInt, -1, 0, 2, 3, 8, 9, 17, 18, 19, 20, 21, maxInt - 18, maxInt} {
		run(t, heads, words(t, dirty(t, 20)), makes(at))
	}
	for _, at := range []int{-1, 0, 1, 2} {
		run(t, heads, nil, makes(at))
		run(t, heads, []uint64{1}, makes(at))
		run(t, heads, []uint64{1, 2, 3}, makes(at))
	}
}

func TestMakeInTheGreatestArena(t *testing.T) {
	a, e := arena.New(mostWords)
	checkError(t, "New", e, api.OK)
	s := api.Shape{Ptrs: 8, Data: 8}
	checkError(t, "Make one behind", Make(a, mostWords-18, s, 3), api.ErrAddr)
	checkError(t, "Make", Make(a, mostWords-19, s, 3), api.OK)
	checkError(t, "SetPtr", SetPtr(a, mostWords-19, 7, mostPlace), api.OK)
	checkError(t, "SetNum", SetNum(a, mostWords-19, 7, -1), api.OK)
	l := words(t, a)
	want := make([]uint64, mostWords)
	copy(want[mostWords-19:], []uint64{full, 0, 3, 0, 0, 0, 0, 0, 0, 0, mostPlace, 0, 0, 0, 0, 0, 0, 0, 1})
	if !slices.Equal(l, want) {
		t.Errorf("the last words are %v", l[mostWords-19:])
	}
}

// O2

// TestCalls holds each call, at every place and at the edges of all arguments, against the rules.
func TestCalls(t *testing.T) {
	heads := heads()
	for _, m := range []made{
		{api.Shape{}, false}, {api.Shape{Ptrs: 1, Data: 1}, false}, {api.Shape{Ptrs: 2}, true}, {api.Shape{Data: 2}, false},
		{api.Shape{Ptrs: 1, Weak: true}, false}, {api.Shape{Ptrs: 1, Weak: true}, true}, {api.Shape{Ptrs: 2, Data: 3, Final: true}, false},
		{api.Shape{Final: true}, true}, {api.Shape{Ptrs: 8, Data: 8}, true},
	} {
		l := slices.Concat([]uint64{50, 60}, object(m), []uint64{70, 80})
		for _, at := range places(len(l)) {
			run(t, heads, l, heading(at))
			for _, i := range indexes() {
				run(t, heads, l, fields(at, i))
			}
		}
	}
}

// TestCallsOfEachShape is the like of objects of all shapes, freed or not, that end with the last word.
func TestCallsOfEachShape(t *testing.T) {
	heads := heads()
	for _, m := range heads {
		l := append([]uint64{40}, object(m)...)
		run(t, heads, l, heading(1))
		for i := -1; i <= mostField; i++ {
			run(t, heads, l, fields(1, i))
		}
	}
}

// TestCallsBeyondTheEnd is the like of objects whose words are not all there.
func TestCallsBeyondTheEnd(t *testing.T) {
	heads := heads()
	for _, m := range heads {
		whole := append([]uint64{40}, object(m)...)
		for _, n := range []int{2, 3, len(whole) - 2, len(whole) - 1} {
			l := whole[:min(n, len(whole)-1)]
			run(t, heads, l, heading(1))
			run(t, heads, l, fields(1, 0))
			run(t, heads, l, fields(1, 1))
			run(t, heads, l, fields(1, 8))
			if _, _, e := Shape(laid(t, l), 1); e != api.ErrObject {
				t.Errorf("Shape of %+v in %d words: error %d", m, len(l), e)
			}
		}
	}
}

func TestCallsOnWhatIsNoHead(t *testing.T) {
	heads := heads()
	for _, w := range notHeads(heads) {
		l := slices.Concat([]uint64{w}, make([]uint64, 20))
		run(t, heads, l, heading(0))
		run(t, heads, l, fields(0, 0))
		run(t, heads, l, fields(0, -1))
		run(t, heads, l, fields(0, 8))
		if _, _, e := Shape(laid(t, l), 0); e != api.ErrObject {
			t.Errorf("Shape of %d: error %d", w, e)
		}
	}
}

func TestCallsWithoutWords(t *testing.T) {
	heads := heads()
	for _, at := range []int{minInt, -1, 0, 1, maxInt} {
		run(t, heads, nil, heading(at))
		run(t, heads, nil, fields(at, 0))
		run(t, heads, nil, fields(at, -1))
	}
	a := new(arena.Arena)
	checkError(t, "Make", Make(a, 0, api.Shape{}, 0), api.ErrAddr)
	checkError(t, "SetPtr", SetPtr(a, 0, 0, 0), api.ErrAddr)
	checkError(t, "SetSecond", SetSecond(a, 0, 0), api.ErrAddr)
}

func TestPlaces(t *testing.T) {
	a := laid(t, []uint64{4, bare, 6, 8, bare, 8})
	for _, x := range []struct {
		at   int
		want api.Errno
	}{
		{0, api.ErrObject}, {1, api.OK}, {2, api.ErrObject}, {3, api.ErrObject}, {4, api.ErrObject}, {5, api.ErrObject}, {6, api.ErrAddr}, {7, api.ErrAddr},
		{-1, api.ErrAddr}, {-5, api.ErrAddr}, {minInt, api.ErrAddr}, {minInt + 1, api.ErrAddr}, {maxInt, api.ErrAddr}, {maxInt - 1, api.ErrAddr}, {1 << 32, api.ErrAddr}, {1<<32 + 1, api.ErrAddr},
	} {
		_, _, shape := Shape(a, x.at)
		checkError(t, fmt.Sprintf("Shape(%d)", x.at), shape, x.want)
		_, serial := Serial(a, x.at)
		checkError(t, fmt.Sprintf("Serial(%d)", x.at), serial, x.want)
		_, second := Second(a, x.at)
		checkError(t, fmt.Sprintf("Second(%d)", x.at), second, x.want)
		checkError(t, fmt.Sprintf("SetFreed(%d)", x.at), SetFreed(a, x.at, false), x.want)
		checkError(t, fmt.Sprintf("SetSecond(%d)", x.at), SetSecond(a, x.at, 6), x.want)
		if x.want == api.OK {
			x.want = api.ErrField
		}
		_, ptr := Ptr(a, x.at, 0)
		checkError(t, fmt.Sprintf("Ptr(%d)", x.at), ptr, x.want)
		_, num := Num(a, x.at, 0)
		checkError(t, fmt.Sprintf("Num(%d)", x.at), num, x.want)
		checkError(t, fmt.Sprintf("SetPtr(%d)", x.at), SetPtr(a, x.at, 0, 1), x.want)
		checkError(t, fmt.Sprintf("SetNum(%d)", x.at), SetNum(a, x.at, 0, 1), x.want)
		check(t, a, 4, bare, 6, 8, bare, 8)
	}
}

func TestShape(t *testing.T) {
	for w, m := range heads() {
		l := object(m)
		l[0] = w
		if s, is, e := Shape(laid(t, l), 0); s != m.s || is != m.freed || e != api.OK {
			t.Errorf("Shape of %d: %+v, %v, error %d", w, s, is, e)
		}
	}
}

func TestSerialsAndPointersAsGoHasThem(t *testing.T) {
	for _, x := range []struct {
		w    uint64
		want int
	}{
		{0, 0}, {1, 1}, {mostSerial, mostSerial}, {mostSerial + 1, mostSerial + 1}, {mostPlace + 1, mostPlace + 1}, {high - 1, maxInt},
		{high, minInt}, {high + 1, minInt + 1}, {all, -1}, {all - 1, -2},
	} {
		for _, head := range []uint64{1 + 2, weak, 1 + 2 + freed, weak + freed} {
			a := laid(t, []uint64{head, 0, x.w, x.w})
			if n, e := Serial(a, 0); n != x.want || e != api.OK {
				t.Errorf("Serial of %d: %d, error %d", x.w, n, e)
			}
			if p, e := Ptr(a, 0, 0); p != x.want || e != api.OK {
				t.Errorf("Ptr of %d: %d, error %d", x.w, p, e)
			}
			if w, e := Second(laid(t, []uint64{head, x.w, 0, 0}), 0); w != x.w || e != api.OK {
				t.Errorf("Second of %d: %d, error %d", x.w, w, e)
			}
		}
	}
}

func TestNumbers(t *testing.T) {
	for _, x := range []struct {
		n int
		w uint64
	}{
		{0, 0}, {-1, 1}, {1, 2}, {-2, 3}, {2, 4}, {1_000_000, 2_000_000}, {-1_000_000, 1_999_999}, {1<<62 - 1, high - 2}, {1 << 62, high}, {-1 << 62, high - 1},
		{maxInt, all - 1}, {minInt, all}, {maxInt - 1, all - 3}, {minInt + 1, all - 2},
	} {
		a := laid(t, []uint64{33, 6, 7, 8})
		checkError(t, "SetNum", SetNum(a, 0, 0, x.n), api.OK)
		check(t, a, 33, 6, 7, x.w)
		if n, e := Num(a, 0, 0); n != x.n || e != api.OK {
			t.Errorf("Num of %d: %d, error %d", x.w, n, e)
		}
	}
}

func TestPointers(t *testing.T) {
	for _, head := range []uint64{1 + 2, weak, 1 + 2 + freed, weak + freed, 1 + 2 + 1024} {
		for _, p := range ptrs() {
			a := laid(t, []uint64{head, 6, 7, 8})
			if e := SetPtr(a, 0, 0, p); p < 0 || p > mostPlace {
				checkError(t, fmt.Sprintf("SetPtr of %d to %d", head, p), e, api.ErrArg)
				check(t, a, head, 6, 7, 8)
			} else {
				checkError(t, fmt.Sprintf("SetPtr of %d to %d", head, p), e, api.OK)
				check(t, a, head, 6, 7, uint64(p))
			}
		}
	}
}

func TestOrderOfErrors(t *testing.T) {
	a := laid(t, []uint64{pair, 6, 7, 8, 9, 2, weak, 6, 7, 8, pair, 6, 7, 8})
	was := words(t, a)
	for _, p := range []int{minInt, -1, mostPlace + 1, maxInt} {
		for _, x := range []struct {
			at, i int
			want  api.Errno
		}{
			{0, 0, api.ErrArg}, {0, 1, api.ErrField}, {0, -1, api.ErrField}, {0, minInt, api.ErrField}, {0, maxInt, api.ErrField},
			{6, 0, api.ErrArg}, {6, 1, api.ErrField}, {6, -1, api.ErrField}, {5, 0, api.ErrObject}, {5, 1, api.ErrObject}, {5, -1, api.ErrObject},
			{10, 0, api.ErrObject}, {10, 1, api.ErrObject}, {14, 0, api.ErrAddr}, {14, -1, api.ErrAddr}, {-1, 0, api.ErrAddr}, {minInt, 9, api.ErrAddr}, {maxInt, 0, api.ErrAddr},
		} {
			checkError(t, fmt.Sprintf("SetPtr(%d, %d, %d)", x.at, x.i, p), SetPtr(a, x.at, x.i, p), x.want)
			check(t, a, was...)
		}
	}
}

func TestFieldsAreCountedByThemselves(t *testing.T) {
	a := laid(t, []uint64{1 + 2*2 + 32*3, 6, 7, 10, 11, 20, 22, 24})
	for i, want := range []int{10, 11} {
		if p, e := Ptr(a, 0, i); p != want || e != api.OK {
			t.Errorf("Ptr(%d): %d, error %d", i, p, e)
		}
	}
	for i, want := range []int{10, 11, 12} {
		if n, e := Num(a, 0, i); n != want || e != api.OK {
			t.Errorf("Num(%d): %d, error %d", i, n, e)
		}
	}
	for _, i := range []int{2, 3, -1, -2, minInt, maxInt} {
		if p, e := Ptr(a, 0, i); p != 0 || e != api.ErrField {
			t.Errorf("Ptr(%d): %d, error %d", i, p, e)
		}
		checkError(t, "SetPtr", SetPtr(a, 0, i, 5), api.ErrField)
	}
	for _, i := range []int{3, 4, -1, -2, minInt, maxInt} {
		if n, e := Num(a, 0, i); n != 0 || e != api.ErrField {
			t.Errorf("Num(%d): %d, error %d", i, n, e)
		}
		checkError(t, "SetNum", SetNum(a, 0, i, 5), api.ErrField)
	}
	check(t, a, 1+2*2+32*3, 6, 7, 10, 11, 20, 22, 24)
	checkError(t, "SetPtr", SetPtr(a, 0, 1, 5), api.OK)
	checkError(t, "SetNum", SetNum(a, 0, 0, 5), api.OK)
	check(t, a, 1+2*2+32*3, 6, 7, 10, 5, 10, 22, 24)
}

func TestFreedTwice(t *testing.T) {
	for _, head := range []uint64{bare, pair, weak, final, full} {
		l := append([]uint64{head}, words(t, dirty(t, 20))...)
		a := laid(t, l)
		for _, is := range []bool{false, true, true, false, false, true} {
			if e := SetFreed(a, 0, is); e != api.OK {
				t.Errorf("SetFreed of %d: error %d", head, e)
			}
			l[0] = head
			if is {
				l[0] += freed
			}
			check(t, a, l...)
		}
	}
}

func TestSecondWords(t *testing.T) {
	for _, head := range []uint64{bare, weak, bare + freed, weak + freed} {
		for _, w := range seconds() {
			a := laid(t, []uint64{head, 9, 7, 8})
			checkError(t, "SetSecond", SetSecond(a, 0, w), api.OK)
			check(t, a, head, w, 7, 8)
			if got, e := Second(a, 0); got != w || e != api.OK {
				t.Errorf("Second: %d, error %d, not %d", got, e, w)
			}
		}
	}
}

// O3

// TestWhatWasSetIsTold does one thing after the other to objects that lie side by side, and holds all words against the rules each time.
func TestWhatWasSetIsTold(t *testing.T) {
	heads := heads()
	for _, s := range shapes() {
		n := 2 + sizeOf(s)
		a := dirty(t, n+20)
		r := rules{heads, words(t, a)}
		calls := slices.Concat(heading(2), heading(n))
		for _, at := range []int{2, n} {
			if e, want := Make(a, at, s, at), r.make(at, s, at); e != want.e {
				t.Errorf("Make(%d, %+v): error %d", at, s, e)
			}
			for i := -1; i <= mostField; i++ {
				calls = append(calls, fields(at, i)...)
			}
		}
		// By a stride of its own, so that each kind of call comes behind each other kind.
		for k := range 2 * len(calls) {
			c := calls[k*37%len(calls)]
			if got, want := c.do(a), c.want(r); got != want {
				t.Errorf("%s of %+v: %+v, not %+v", c.name, s, got, want)
			}
			if got := words(t, a); !slices.Equal(got, r.l) {
				t.Fatalf("behind %s of %+v: %v, not %v", c.name, s, got, r.l)
			}
		}
	}
}

func TestObjectsSideBySide(t *testing.T) {
	a := laid(t, make([]uint64, 12))
	checkError(t, "Make", Make(a, 0, api.Shape{Ptrs: 1, Data: 1}, 1), api.OK)
	checkError(t, "Make", Make(a, 5, api.Shape{Ptrs: 1, Weak: true}, 2), api.OK)
	checkError(t, "Make", Make(a, 9, api.Shape{}, 3), api.OK)
	checkError(t, "SetPtr", SetPtr(a, 0, 0, 5), api.OK)
	checkError(t, "SetNum", SetNum(a, 0, 0, -3), api.OK)
	checkError(t, "SetPtr", SetPtr(a, 5, 0, 9), api.OK)
	checkError(t, "SetFreed", SetFreed(a, 5, true), api.OK)
	checkError(t, "SetSecond", SetSecond(a, 9, 15), api.OK)
	check(t, a, 35, 0, 1, 5, 5, weak+freed, 0, 2, 9, 1, 15, 3)
	checkError(t, "SetSecond", SetSecond(a, 0, 14), api.OK)
	checkError(t, "SetFreed", SetFreed(a, 9, true), api.OK)
	checkError(t, "SetFreed", SetFreed(a, 5, false), api.OK)
	check(t, a, 35, 14, 1, 5, 5, weak, 0, 2, 9, bare+freed, 15, 3)
}

// R1

func TestErrorsTellNothingElse(t *testing.T) {
	a := laid(t, []uint64{pair + freed, all, all, all, all, all, full, all, all})
	for _, at := range []int{-1, 1, 5, 6, 7, 8, 9, minInt, maxInt} {
		if s, is, e := Shape(a, at); s != (api.Shape{}) || is || e == api.OK {
			t.Errorf("Shape(%d): %+v, %v, error %d", at, s, is, e)
		}
		if n, e := Serial(a, at); n != 0 || e == api.OK {
			t.Errorf("Serial(%d): %d, error %d", at, n, e)
		}
		if w, e := Second(a, at); w != 0 || e == api.OK {
			t.Errorf("Second(%d): %d, error %d", at, w, e)
		}
		if p, e := Ptr(a, at, 0); p != 0 || e == api.OK {
			t.Errorf("Ptr(%d): %d, error %d", at, p, e)
		}
		if n, e := Num(a, at, 0); n != 0 || e == api.OK {
			t.Errorf("Num(%d): %d, error %d", at, n, e)
		}
	}
	for _, i := range []int{-1, 1, 2, minInt, maxInt} {
		if p, e := Ptr(a, 0, i); p != 0 || e != api.ErrField {
			t.Errorf("Ptr(0, %d): %d, error %d", i, p, e)
		}
		if n, e := Num(a, 0, i); n != 0 || e != api.ErrField {
			t.Errorf("Num(0, %d): %d, error %d", i, n, e)
		}
	}
}

// R4

func TestAnswersHangOnTheArenaAlone(t *testing.T) {
	a, other := laid(t, make([]uint64, 5)), dirty(t, 5)
	checkError(t, "Make", Make(a, 0, api.Shape{Ptrs: 1, Data: 1}, 7), api.OK)
	was := words(t, other)
	checkError(t, "SetPtr of another arena", SetPtr(other, 0, 0, 1), api.ErrObject)
	checkError(t, "Make in another arena", Make(other, 0, api.Shape{Ptrs: 9}, 8), api.ErrArg)
	check(t, other, was...)
	checkError(t, "Make in another arena", Make(other, 0, api.Shape{Data: 2}, 8), api.OK)
	checkError(t, "SetNum of another arena", SetNum(other, 0, 0, 3), api.OK)
	checkError(t, "SetFreed of another arena", SetFreed(other, 0, true), api.OK)
	check(t, a, 35, 0, 7, 0, 0)
	check(t, other, 1+64+freed, 0, 8, 6, 0)
	for range 3 {
		if s, is, e := Shape(a, 0); s != (api.Shape{Ptrs: 1, Data: 1}) || is || e != api.OK {
			t.Errorf("Shape: %+v, %v, error %d", s, is, e)
		}
	}
}
