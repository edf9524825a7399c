package graph

import (
	"fmt"
	"maps"
	"math"
	"slices"
	"testing"

	"middenheap/api"
	"middenheap/arena"
	"middenheap/mover"
	"middenheap/object"
	"middenheap/space"
)

// The bounds are written out, as are the words below: nothing of the program is held against itself.
const (
	mostField = 8
	mostPlace = 1 << 17
	mostWords = 1 << 16
	mostStamp = 1 << 40
	all       = ^uint64(0)
	high      = uint64(1) << 63
	maxInt    = math.MaxInt
	minInt    = math.MinInt
)

// filler is a word that is neither 0, nor a Head, nor a Gone, nor a place where an object stands in these tests.
const filler = 44

// goneTo is the word of an object that is at another place now.
func goneTo(at int) uint64 { return 4*uint64(at) + 2 }

// made is what a Head is made of.
type made struct {
	s     api.Shape
	freed bool
}

// headOf is a Head as a sum: 1, 2 times the pointers, 32 times the numbers, and 512, 1024, 2048 of a weak one, of one to be finalized, of one that is freed.
func headOf(m made) uint64 {
	w := 1 + 2*uint64(m.s.Ptrs) + 32*uint64(m.s.Data)
	for _, x := range []struct {
		is  bool
		bit uint64
	}{{m.s.Weak, 512}, {m.s.Final, 1024}, {m.freed, 2048}} {
		if x.is {
			w += x.bit
		}
	}
	return w
}

// sizeOf is how many words an object of a right shape has.
func sizeOf(s api.Shape) int { return 3 + s.Ptrs + s.Data }

// zig is a number's word: 0, 1, 2 .. are the even ones, -1, -2 .. the odd ones.
func zig(n int) uint64 {
	if n < 0 {
		return 2*uint64(-(n+1)) + 1
	}
	return 2 * uint64(n)
}

// zag is the number of a word.
func zag(w uint64) int {
	if w%2 == 1 {
		return -int(w/2) - 1
	}
	return int(w / 2)
}

// shapes are all right ones.
func shapes() []api.Shape {
	l := []api.Shape{{Ptrs: 1, Weak: true}}
	for ptrs := range mostField + 1 {
		for data := range mostField + 1 {
			l = append(l, api.Shape{Ptrs: ptrs, Data: data}, api.Shape{Ptrs: ptrs, Data: data, Final: true})
		}
	}
	return l
}

// heads are all words that are a Head.
func heads() map[uint64]made {
	l := make(map[uint64]made)
	for _, s := range shapes() {
		for _, is := range []bool{false, true} {
			l[headOf(made{s, is})] = made{s, is}
		}
	}
	return l
}

// thing is an object as a test lays it at a place; it has as many pointers and numbers as there are.
type thing struct {
	at                 int
	weak, final, freed bool
	second             uint64
	serial             int
	ptrs, nums         []int
}

// shape is a thing's shape.
func (x thing) shape() api.Shape {
	return api.Shape{Ptrs: len(x.ptrs), Data: len(x.nums), Weak: x.weak, Final: x.final}
}

// words is a thing's words.
func (x thing) words() []uint64 {
	l := []uint64{headOf(made{x.shape(), x.freed}), x.second, uint64(x.serial)}
	for _, p := range x.ptrs {
		l = append(l, uint64(p))
	}
	for _, n := range x.nums {
		l = append(l, zig(n))
	}
	return l
}

// lay is n words: things at their places, fillers elsewhere.
func lay(n int, things ...thing) []uint64 {
	l := slices.Repeat([]uint64{filler}, n)
	for _, x := range things {
		copy(l[x.at:], x.words())
	}
	return l
}

// laid is an arena of these words, which may be none.
func laid(t *testing.T, words []uint64) *arena.Arena {
	t.Helper()
	if len(words) == 0 {
		return new(arena.Arena)
	}
	a, e := arena.New(len(words))
	if e != api.OK {
		t.Fatalf("New(%d): %d", len(words), e)
	}
	for at, w := range words {
		if e := a.Store(at, w); e != api.OK {
			t.Fatalf("Store(%d): %d", at, e)
		}
	}
	return a
}

// words is what an arena's words are.
func words(t *testing.T, a *arena.Arena) []uint64 {
	t.Helper()
	var l []uint64
	for at := range a.Len() {
		w, e := a.Load(at)
		if e != api.OK {
			t.Fatalf("Load(%d): %d", at, e)
		}
		l = append(l, w)
	}
	return l
}

// sameNodes tells whether nodes are the same, a line a field; what is tested is not asked.
func sameNodes(a, b []api.Node) bool {
	if len(a) != len(b) {
		return false
	}
	for i := range a {
		if a[i].Serial != b[i].Serial || a[i].Freed != b[i].Freed {
			return false
		}
		if a[i].Shape != b[i].Shape {
			return false
		}
		if fmt.Sprint(a[i].Ptrs) != fmt.Sprint(b[i].Ptrs) || fmt.Sprint(a[i].Nums) != fmt.Sprint(b[i].Nums) {
			return false
		}
	}
	return true
}

// rules is the chapter, word for word, on a list of words.
type rules struct {
	heads map[uint64]made
	l     []uint64
}

// object is what stands at a place.
func (r rules) object(at int) (made, api.Errno) {
	if at < 0 || at >= len(r.l) {
		return made{}, api.ErrAddr
	}
	m, ok := r.heads[r.l[at]]
	if !ok || len(r.l)-at < sizeOf(m.s) {
		return made{}, api.ErrObject
	}
	return m, api.OK
}

// strong is an object's strong pointers.
func (r rules) strong(at int) []int {
	m, _ := r.object(at)
	if m.s.Weak {
		return nil
	}
	var l []int
	for i := range m.s.Ptrs {
		l = append(l, int(r.l[at+3+i]))
	}
	return l
}

func (r rules) reach(roots []int) ([]int, api.Errno) {
	var order []int
	come := func(l []int) {
		for _, p := range l {
			if p != 0 && !slices.Contains(order, p) {
				order = append(order, p)
			}
		}
	}
	come(roots)
	for k := 0; k < len(order); k++ {
		if _, e := r.object(order[k]); e != api.OK {
			return nil, e
		}
		come(r.strong(order[k]))
	}
	return order, api.OK
}

// seat is a place's place in the order; -1 for 0, -2 of what is not there.
func seat(order []int, p int) int {
	if p == 0 {
		return -1
	}
	if k := slices.Index(order, p); k >= 0 {
		return k
	}
	return -2
}

func (r rules) canon(roots []int) ([]api.Node, []int, api.Errno) {
	order, e := r.reach(roots)
	if e != api.OK {
		return nil, nil, e
	}
	var nodes []api.Node
	for _, at := range order {
		m, _ := r.object(at)
		n := api.Node{Serial: int(r.l[at+2]), Shape: m.s, Freed: m.freed}
		for i := range m.s.Ptrs {
			n.Ptrs = append(n.Ptrs, seat(order, int(r.l[at+3+i])))
		}
		for i := range m.s.Data {
			n.Nums = append(n.Nums, zag(r.l[at+3+m.s.Ptrs+i]))
		}
		nodes = append(nodes, n)
	}
	var seats []int
	for _, p := range roots {
		seats = append(seats, seat(order, p))
	}
	return nodes, seats, api.OK
}

// reaches holds Reach of roots against what is written out.
func reaches(t *testing.T, a *arena.Arena, roots []int, want []int, e api.Errno) {
	t.Helper()
	if got, is := Reach(a, roots); !slices.Equal(got, want) || is != e {
		t.Errorf("Reach(%v): %v, error %d, not %v, error %d", roots, got, is, want, e)
	}
}

// canons holds Canon of roots against what is written out.
func canons(t *testing.T, a *arena.Arena, roots []int, want []api.Node, seats []int, e api.Errno) {
	t.Helper()
	nodes, got, is := Canon(a, roots)
	if !sameNodes(nodes, want) || !slices.Equal(got, seats) || is != e {
		t.Errorf("Canon(%v): %+v, %v, error %d, not %+v, %v, error %d", roots, nodes, got, is, want, seats, e)
	}
}

// run holds Reach and Canon of each of some lists of roots against the rules; the words stay as they are.
func run(t *testing.T, heads map[uint64]made, l []uint64, lists ...[]int) {
	t.Helper()
	a, r := laid(t, l), rules{heads, l}
	for _, roots := range lists {
		order, e := r.reach(roots)
		reaches(t, a, roots, order, e)
		nodes, seats, e := r.canon(roots)
		canons(t, a, roots, nodes, seats, e)
		unchanged(t, a, l)
	}
}

// unchanged holds an arena's words against those that it was laid of.
func unchanged(t *testing.T, a *arena.Arena, l []uint64) {
	t.Helper()
	if got := words(t, a); !slices.Equal(got, l) {
		t.Errorf("the words are %v, not %v", got, l)
	}
}

// fails holds Reach and Canon of roots against an error, which is all that is told.
func fails(t *testing.T, a *arena.Arena, roots []int, e api.Errno) {
	t.Helper()
	reaches(t, a, roots, nil, e)
	canons(t, a, roots, nil, nil, e)
}

// chance picks numbers by a rule of its own, so that they come the same each time.
func chance(start int) func(n int) int {
	x := uint64(start)*2 + 1
	return func(n int) int {
		x = x*6364136223846793005 + 1442695040888963407
		return int(x >> 33 % uint64(n))
	}
}

// The chapter's example

func TestExample(t *testing.T) {
	a := laid(t, lay(20, thing{at: 5, serial: 7, ptrs: []int{5}}))
	reaches(t, a, []int{5}, []int{5}, api.OK)
	canons(t, a, []int{5}, []api.Node{{Serial: 7, Shape: api.Shape{Ptrs: 1}, Ptrs: []int{0}}}, []int{0}, api.OK)
}

// G1

// TestReachOfNothing has no roots, and none but 0, also where no object is, and at place 0 none or one.
func TestReachOfNothing(t *testing.T) {
	for _, l := range [][]uint64{nil, {1}, {filler}, lay(10), lay(10, thing{at: 0, ptrs: []int{4}}, thing{at: 4}), lay(10, thing{at: 4, ptrs: []int{4}})} {
		a := laid(t, l)
		for _, roots := range [][]int{nil, {}, {0}, {0, 0, 0}, make([]int, 0, 5)} {
			reaches(t, a, roots, nil, api.OK)
			canons(t, a, roots, nil, slices.Repeat([]int{-1}, len(roots)), api.OK)
		}
		unchanged(t, a, l)
	}
}

func TestReachOfRoots(t *testing.T) {
	l := lay(60,
		thing{at: 4, ptrs: []int{12}},
		thing{at: 8},
		thing{at: 12, ptrs: []int{0}},
		thing{at: 20, ptrs: []int{4, 8}},
		thing{at: 30, ptrs: []int{30}},
	)
	a := laid(t, l)
	for _, x := range []struct{ roots, want []int }{
		{[]int{8}, []int{8}},
		{[]int{4}, []int{4, 12}},
		{[]int{20}, []int{20, 4, 8, 12}},
		{[]int{30}, []int{30}},
		{[]int{8, 8}, []int{8}},
		{[]int{8, 12, 8, 8, 12}, []int{8, 12}},
		{[]int{12, 8}, []int{12, 8}},
		{[]int{0, 8}, []int{8}},
		{[]int{8, 0, 12, 0}, []int{8, 12}},
		{[]int{4, 12}, []int{4, 12}},
		{[]int{12, 4}, []int{12, 4}},
		{[]int{4, 8}, []int{4, 8, 12}},
		{[]int{8, 20}, []int{8, 20, 4, 12}},
		{[]int{20, 12, 20}, []int{20, 12, 4, 8}},
		{[]int{30, 12, 20, 4, 8}, []int{30, 12, 20, 4, 8}},
	} {
		reaches(t, a, x.roots, x.want, api.OK)
		var want []int
		for _, p := range x.roots {
			want = append(want, seat(x.want, p))
		}
		if _, seats, e := Canon(a, x.roots); !slices.Equal(seats, want) || e != api.OK {
			t.Errorf("Canon(%v): the roots are %v, error %d, not %v", x.roots, seats, e, want)
		}
	}
	unchanged(t, a, l)
}

// TestReachGoesInOneOrder has a place come to by more than one way: the roots ahead of their pointers, and these ahead of those that they lead to.
func TestReachGoesInOneOrder(t *testing.T) {
	for _, x := range []struct {
		name        string
		things      []thing
		roots, want []int
	}{
		{"itself", []thing{{at: 4, ptrs: []int{4}}}, []int{4}, []int{4}},
		{"itself, and another", []thing{{at: 4, ptrs: []int{4, 20, 4}}, {at: 20, ptrs: []int{20}}}, []int{4}, []int{4, 20}},
		{"one another", []thing{{at: 4, ptrs: []int{20}}, {at: 20, ptrs: []int{4}}}, []int{20}, []int{20, 4}},
		{"one another, both roots", []thing{{at: 4, ptrs: []int{20}}, {at: 20, ptrs: []int{4}}}, []int{4, 20}, []int{4, 20}},
		{"the same pointer twice", []thing{{at: 4, ptrs: []int{20, 20}}, {at: 20}}, []int{4}, []int{4, 20}},
		{"the same pointer about another", []thing{{at: 4, ptrs: []int{20, 30, 20}}, {at: 20}, {at: 30}}, []int{4}, []int{4, 20, 30}},
		{"all pointers 0", []thing{{at: 4, ptrs: []int{0, 0, 0}}}, []int{4}, []int{4}},
		{"0 among pointers", []thing{{at: 4, ptrs: []int{0, 30, 0, 20}}, {at: 20}, {at: 30}}, []int{4}, []int{4, 30, 20}},
		{"0 stands for nothing, where an object is", []thing{{at: 0, ptrs: []int{30}}, {at: 4, ptrs: []int{0}}, {at: 30}}, []int{4, 0}, []int{4}},
		{"a chain backwards", []thing{{at: 40, ptrs: []int{30}}, {at: 30, ptrs: []int{20}}, {at: 20, ptrs: []int{4}}, {at: 4}}, []int{40}, []int{40, 30, 20, 4}},
		{"two ways to one", []thing{{at: 4, ptrs: []int{20, 30}}, {at: 20, ptrs: []int{40}}, {at: 30, ptrs: []int{40}}, {at: 40}}, []int{4}, []int{4, 20, 30, 40}},
		{"a short way and a long one", []thing{{at: 4, ptrs: []int{20, 30}}, {at: 20, ptrs: []int{40}}, {at: 30, ptrs: []int{50}}, {at: 40, ptrs: []int{50}}, {at: 50}}, []int{4}, []int{4, 20, 30, 40, 50}},
		{"breadth ahead of depth", []thing{{at: 4, ptrs: []int{20, 50}}, {at: 20, ptrs: []int{30}}, {at: 30, ptrs: []int{40}}, {at: 40}, {at: 50, ptrs: []int{60}}, {at: 60}}, []int{4}, []int{4, 20, 50, 30, 60, 40}},
		{"roots ahead of pointers", []thing{{at: 4, ptrs: []int{30}}, {at: 20, ptrs: []int{40}}, {at: 30}, {at: 40, ptrs: []int{4}}}, []int{20, 4}, []int{20, 4, 40, 30}},
		{"a root that is pointed to first", []thing{{at: 4, ptrs: []int{30, 20}}, {at: 20, ptrs: []int{40}}, {at: 30, ptrs: []int{50}}, {at: 40}, {at: 50}}, []int{4, 20}, []int{4, 20, 30, 40, 50}},
		{"pointers in their order, not their places'", []thing{{at: 4, ptrs: []int{60, 20, 50, 30, 40}}, {at: 20}, {at: 30}, {at: 40}, {at: 50}, {at: 60}}, []int{4}, []int{4, 60, 20, 50, 30, 40}},
		{"numbers are no pointers", []thing{{at: 4, ptrs: []int{20}, nums: []int{15, 30, 200}}, {at: 20, nums: []int{15}}, {at: 30}}, []int{4}, []int{4, 20}},
		{"a greater ring", []thing{{at: 4, ptrs: []int{20}}, {at: 20, ptrs: []int{30}}, {at: 30, ptrs: []int{40}}, {at: 40, ptrs: []int{4, 20, 30, 40}}}, []int{30}, []int{30, 40, 4, 20}},
	} {
		l := lay(80, x.things...)
		a := laid(t, l)
		if got, e := Reach(a, x.roots); !slices.Equal(got, x.want) || e != api.OK {
			t.Errorf("%s: %v, error %d, not %v", x.name, got, e, x.want)
		}
		unchanged(t, a, l)
		run(t, heads(), l, x.roots)
	}
}

// TestReachInEachSeat has each pointer of an object lead elsewhere, and every other one to nothing.
func TestReachInEachSeat(t *testing.T) {
	for n := 1; n <= mostField; n++ {
		for i := range n {
			ptrs := make([]int, n)
			ptrs[i] = 40
			a := laid(t, lay(60, thing{at: 4, ptrs: ptrs, nums: []int{50}}, thing{at: 40, serial: 8}, thing{at: 50}))
			reaches(t, a, []int{4}, []int{4, 40}, api.OK)
			seats := slices.Repeat([]int{-1}, n)
			seats[i] = 1
			canons(t, a, []int{4}, []api.Node{{Shape: api.Shape{Ptrs: n, Data: 1}, Ptrs: seats, Nums: []int{50}}, {Serial: 8}}, []int{0}, api.OK)
		}
	}
}

// TestReachAlongAChain has as many objects as an arena bears, one behind the other by a stride, as a chain and as a ring.
func TestReachAlongAChain(t *testing.T) {
	const n = (mostWords - 1) / 4
	for _, stride := range []int{1, n - 1, 5, 4096} {
		order := make([]int, n)
		for k := range order {
			order[k] = 1 + 4*(k*stride%n)
		}
		for _, last := range []int{0, order[0], order[n/2]} {
			l := make([]uint64, mostWords)
			nodes := make([]api.Node, n)
			for k, at := range order {
				behind, seat := last, slices.Index(order, last)
				if k+1 < n {
					behind, seat = order[k+1], k+1
				}
				copy(l[at:], thing{at: at, serial: k, ptrs: []int{behind}}.words())
				nodes[k] = api.Node{Serial: k, Shape: api.Shape{Ptrs: 1}, Ptrs: []int{seat}}
			}
			a := laid(t, l)
			got, e := Reach(a, order[:1])
			if !slices.Equal(got, order) || e != api.OK {
				t.Errorf("Reach by %d to %d: %d places, error %d", stride, last, len(got), e)
			}
			is, seats, e := Canon(a, []int{order[0], 0, order[n-1]})
			if len(is) != n || !slices.Equal(seats, []int{0, -1, 1}) || e != api.OK {
				t.Errorf("Canon by %d to %d: %d nodes, roots %v, error %d", stride, last, len(is), seats, e)
			}
			if is, seats, e = Canon(a, order[:1]); !sameNodes(is, nodes) || !Same(is, nodes) || !slices.Equal(seats, []int{0}) || e != api.OK {
				t.Errorf("Canon by %d to %d: %d nodes, roots %v, error %d", stride, last, len(is), seats, e)
			}
			if !slices.Equal(words(t, a), l) {
				t.Errorf("the words have changed")
			}
		}
	}
}

// TestReachOfAChainThatBreaks has the last object of the longest chain lead to no object, and just beyond the arena.
func TestReachOfAChainThatBreaks(t *testing.T) {
	const n = (mostWords - 1) / 4
	l := make([]uint64, mostWords)
	for k := range n {
		copy(l[1+4*k:], thing{ptrs: []int{5 + 4*k}}.words())
	}
	a := laid(t, l)
	fails(t, a, []int{1}, api.ErrObject)
	a.Store(4*n, mostWords)
	fails(t, a, []int{1}, api.ErrAddr)
	a.Store(4*n, 0)
	if got, e := Reach(a, []int{1}); len(got) != n || e != api.OK {
		t.Errorf("Reach: %d places, error %d", len(got), e)
	}
}

// TestReachOfAllPlaces has an object at each place but the last ones, each with words in common with those about it, and all of them roots.
func TestReachOfAllPlaces(t *testing.T) {
	l := slices.Repeat([]uint64{3}, mostWords)
	a := laid(t, l)
	var roots, want []int
	for at := range mostWords - 3 {
		roots = append(roots, at)
		if at > 0 {
			want = append(want, at)
		}
	}
	got, e := Reach(a, roots)
	if !slices.Equal(got, want) || e != api.OK {
		t.Errorf("Reach: %d places, error %d", len(got), e)
	}
	reaches(t, a, []int{9}, []int{9, 3}, api.OK)
	canons(t, a, []int{9, 0, 3}, []api.Node{{Serial: 3, Shape: api.Shape{Ptrs: 1}, Ptrs: []int{1}}, {Serial: 3, Shape: api.Shape{Ptrs: 1}, Ptrs: []int{1}}}, []int{0, -1, 1}, api.OK)
	fails(t, a, append(roots, mostWords-3), api.ErrObject)
	fails(t, a, append(roots, mostWords), api.ErrAddr)
}

// TestReachOfEveryKind has objects that are freed or to be finalized, with others behind them and without: they are gone through as others are.
func TestReachOfEveryKind(t *testing.T) {
	for _, is := range []thing{{}, {freed: true}, {final: true}, {freed: true, final: true}} {
		is.at, is.serial = 4, 9
		for _, ptrs := range [][]int{nil, {0}, {20}, {20, 0, 30}} {
			is.ptrs = ptrs
			l := lay(60, is, thing{at: 20, freed: is.freed, ptrs: []int{40}}, thing{at: 30, final: true}, thing{at: 40, freed: true})
			a := laid(t, l)
			want := []int{4}
			seats := slices.Repeat([]int{-1}, len(ptrs))
			if len(ptrs) > 0 && ptrs[0] != 0 {
				want, seats[0] = append(want, 20), 1
				if len(ptrs) > 1 {
					want, seats[2] = append(want, 30), 2
				}
				want = append(want, 40)
			}
			reaches(t, a, []int{4}, want, api.OK)
			nodes, _, e := Canon(a, []int{4})
			node := api.Node{Serial: 9, Shape: api.Shape{Ptrs: len(ptrs), Final: is.final}, Freed: is.freed, Ptrs: seats}
			if len(nodes) != len(want) || !sameNodes(nodes[:1], []api.Node{node}) || e != api.OK {
				t.Errorf("Canon of %+v: %+v, error %d", is, nodes, e)
			}
			run(t, heads(), l, []int{4}, []int{40, 4}, []int{20, 0, 4})
		}
	}
}

// TestReachOfWeakOnes has weak objects, freed and not, as roots and behind others: where they lead one does not come to by them.
func TestReachOfWeakOnes(t *testing.T) {
	for _, is := range []bool{false, true} {
		l := lay(80,
			thing{at: 4, weak: true, freed: is, ptrs: []int{20}},
			thing{at: 20, ptrs: []int{30}},
			thing{at: 30},
			thing{at: 40, weak: true, freed: is, ptrs: []int{40}},
			thing{at: 50, ptrs: []int{4, 60}},
			thing{at: 60, weak: true, ptrs: []int{4}},
		)
		a := laid(t, l)
		for _, x := range []struct{ roots, want []int }{
			{[]int{4}, []int{4}},
			{[]int{4, 20}, []int{4, 20, 30}},
			{[]int{20, 4}, []int{20, 4, 30}},
			{[]int{40}, []int{40}},
			{[]int{50}, []int{50, 4, 60}},
			{[]int{60, 50}, []int{60, 50, 4}},
			{[]int{60}, []int{60}},
		} {
			reaches(t, a, x.roots, x.want, api.OK)
		}
		unchanged(t, a, l)
	}
}

// TestRootsThatAreNoObject has roots about the ends of arenas, at each word of what stands there, and the least and the greatest ones.
func TestRootsThatAreNoObject(t *testing.T) {
	for _, l := range [][]uint64{nil, {1}, {1, 8, 8}, lay(9, thing{at: 5, ptrs: []int{5}}), lay(9, thing{at: 6, serial: 8}), lay(9, thing{at: 1, ptrs: []int{1}, nums: []int{1, 2}}), {filler, goneTo(3), filler, 1, 4, 8}, {filler, goneTo(1), filler}, {filler, 1 + 2*8 + 32*8, 4, 8}, {0, 0, 0, 0}} {
		roots := []int{minInt, minInt + 1, -mostPlace, -mostWords, -len(l), -2, -1, len(l), len(l) + 1, mostWords, mostPlace, mostPlace + 1, 1 << 32, 1<<32 + 5, 1 << 62, maxInt - 1, maxInt}
		for at := 1; at < len(l); at++ {
			roots = append(roots, at)
		}
		for _, at := range roots {
			run(t, heads(), l, []int{at}, []int{0, at}, []int{at, at})
		}
	}
	a := laid(t, lay(9, thing{at: 5, ptrs: []int{5}}))
	for _, x := range []struct {
		root int
		e    api.Errno
	}{
		{5, api.OK}, {4, api.ErrObject}, {6, api.ErrObject}, {8, api.ErrObject}, {9, api.ErrAddr}, {10, api.ErrAddr}, {-1, api.ErrAddr}, {-5, api.ErrAddr}, {minInt, api.ErrAddr}, {maxInt, api.ErrAddr}, {1<<32 + 5, api.ErrAddr},
	} {
		if x.e != api.OK {
			fails(t, a, []int{x.root}, x.e)
			fails(t, a, []int{5, 5, x.root, 0}, x.e)
			continue
		}
		reaches(t, a, []int{x.root}, []int{5}, x.e)
	}
}

// TestReachUpToTheLastWord has an object that ends with the arena's last word, and one that would have one word more.
func TestReachUpToTheLastWord(t *testing.T) {
	for m := range maps.Values(heads()) {
		l := append([]uint64{filler}, headOf(m), 4, 8)
		l = append(l, make([]uint64, m.s.Ptrs+m.s.Data)...)
		reaches(t, laid(t, l), []int{1}, []int{1}, api.OK)
		fails(t, laid(t, l[:len(l)-1]), []int{1}, api.ErrObject)
	}
}

// TestPointersThatLeadToNone has pointers to what is no object, to what is gone, and to beyond the arena, also by bits that no pointer may be made.
func TestPointersThatLeadToNone(t *testing.T) {
	heads := heads()
	for _, x := range []struct {
		to uint64
		e  api.Errno
	}{
		{1, api.ErrObject}, {21, api.ErrObject}, {22, api.ErrObject}, {30, api.ErrObject}, {39, api.ErrObject}, {50, api.ErrObject}, {59, api.ErrObject},
		{60, api.ErrAddr}, {61, api.ErrAddr}, {mostWords, api.ErrAddr}, {mostPlace, api.ErrAddr}, {mostPlace + 1, api.ErrAddr}, {1<<32 + 20, api.ErrAddr}, {1<<62 + 20, api.ErrAddr}, {high + 20, api.ErrAddr}, {high, api.ErrAddr}, {high - 1, api.ErrAddr}, {all, api.ErrAddr}, {all - 1, api.ErrAddr},
		{20, api.OK}, {40, api.OK}, {0, api.OK},
	} {
		l := lay(60, thing{at: 4, ptrs: []int{20, int(x.to), 0}}, thing{at: 20, ptrs: []int{4}}, thing{at: 40, freed: true})
		// One that is gone to where an object is.
		l[30] = goneTo(40)
		a := laid(t, l)
		for _, roots := range [][]int{{4}, {20}, {40, 0, 20, 4}} {
			if x.e != api.OK {
				fails(t, a, roots, x.e)
			}
			run(t, heads, l, roots)
		}
		// Nobody comes to it from here.
		reaches(t, a, []int{40}, []int{40}, api.OK)
	}
}

// TestReachOfWhatIsGone has what is gone as a root, ahead of where it is and behind it, and behind pointers: it is no object.
func TestReachOfWhatIsGone(t *testing.T) {
	l := lay(40, thing{at: 4, ptrs: []int{20}}, thing{at: 10, ptrs: []int{30}}, thing{at: 30})
	l[20] = goneTo(30)
	a := laid(t, l)
	for _, roots := range [][]int{{20}, {30, 20}, {20, 30}, {4}, {10, 4}, {30, 4, 10}} {
		fails(t, a, roots, api.ErrObject)
	}
	reaches(t, a, []int{10}, []int{10, 30}, api.OK)
	for _, where := range []int{20, 39, 40, mostPlace} {
		a.Store(20, goneTo(where))
		fails(t, a, []int{4}, api.ErrObject)
	}
}

// TestTheFirstErrorIsTold has one that is no object and a place where no word is: the one that one comes to first is told, whichever it is.
func TestTheFirstErrorIsTold(t *testing.T) {
	l := lay(80,
		thing{at: 4, ptrs: []int{70, 80}},
		thing{at: 10, ptrs: []int{80, 70}},
		thing{at: 20, ptrs: []int{30, 70}},
		thing{at: 30, ptrs: []int{80}},
		thing{at: 40, ptrs: []int{30, 50}},
		thing{at: 50, ptrs: []int{70}},
		thing{at: 60, ptrs: []int{50, 30}},
	)
	a := laid(t, l)
	for _, x := range []struct {
		roots []int
		e     api.Errno
	}{
		{[]int{70, 80}, api.ErrObject}, {[]int{80, 70}, api.ErrAddr}, {[]int{-1, 70}, api.ErrAddr}, {[]int{70, -1}, api.ErrObject}, {[]int{0, 70, maxInt}, api.ErrObject}, {[]int{minInt, 0, 70}, api.ErrAddr},
		{[]int{4}, api.ErrObject}, {[]int{10}, api.ErrAddr}, {[]int{4, 10}, api.ErrObject}, {[]int{10, 4}, api.ErrAddr},
		// Roots come ahead of what they lead to.
		{[]int{4, 80}, api.ErrAddr}, {[]int{10, 70}, api.ErrObject}, {[]int{4, -1}, api.ErrAddr},
		// Pointers come ahead of what they lead to.
		{[]int{20}, api.ErrObject}, {[]int{30}, api.ErrAddr}, {[]int{40}, api.ErrAddr}, {[]int{60}, api.ErrObject}, {[]int{20, 30}, api.ErrObject}, {[]int{30, 20}, api.ErrAddr}, {[]int{50, 30}, api.ErrObject}, {[]int{60, 40}, api.ErrObject}, {[]int{40, 60}, api.ErrAddr}, {[]int{50, 40, 80}, api.ErrAddr},
	} {
		fails(t, a, x.roots, x.e)
		run(t, heads(), l, x.roots)
	}
}

// G2

// serials are such as may be made, and such as just a word's bits tell.
func serials() []int {
	return []int{0, 1, 7, mostStamp - 1, mostStamp, mostStamp + 1, -1, -2, minInt, maxInt}
}

// numbers are such as a word tells at its ends.
func numbers() []int {
	return []int{0, 1, -1, 2, -2, 1000, -1000, 1 << 32, -1 << 32, maxInt - 1, maxInt, minInt, minInt + 1}
}

func TestCanonTellsFields(t *testing.T) {
	for m := range maps.Values(heads()) {
		for k, serial := range serials() {
			x := thing{at: 4, weak: m.s.Weak, final: m.s.Final, freed: m.freed, serial: serial, second: uint64(k) * 2}
			var seats []int
			for i := range m.s.Ptrs {
				x.ptrs = append(x.ptrs, []int{0, 4}[i%2])
				seats = append(seats, []int{-1, 0}[i%2])
			}
			for i := range m.s.Data {
				x.nums = append(x.nums, numbers()[(i+k)%len(numbers())])
			}
			l := lay(30, x)
			a := laid(t, l)
			canons(t, a, []int{4}, []api.Node{{Serial: serial, Shape: m.s, Freed: m.freed, Ptrs: seats, Nums: x.nums}}, []int{0}, api.OK)
			unchanged(t, a, l)
		}
	}
}

func TestCanonTellsNumbersInTheirOrder(t *testing.T) {
	for _, n := range numbers() {
		for i := range mostField {
			nums := make([]int, mostField)
			for k := range nums {
				nums[k] = 10 + k
			}
			nums[i] = n
			a := laid(t, lay(30, thing{at: 4, ptrs: []int{0, 4}, nums: nums}))
			canons(t, a, []int{4, 4}, []api.Node{{Shape: api.Shape{Ptrs: 2, Data: 8}, Ptrs: []int{-1, 0}, Nums: nums}}, []int{0, 0}, api.OK)
		}
	}
}

// TestCanonTellsNodesInTheOrderOfReach has pointers ahead, back and to their own object.
func TestCanonTellsNodesInTheOrderOfReach(t *testing.T) {
	l := lay(80,
		thing{at: 10, serial: 1, ptrs: []int{60, 0, 30}, nums: []int{-5}},
		thing{at: 30, serial: 2, final: true, ptrs: []int{40, 10}},
		thing{at: 40, serial: 3, weak: true, ptrs: []int{60}},
		thing{at: 60, serial: 4, freed: true, ptrs: []int{60, 70}, nums: []int{maxInt, minInt}},
		thing{at: 70, serial: 5},
	)
	a := laid(t, l)
	canons(t, a, []int{10, 0, 70, 10}, []api.Node{
		{Serial: 1, Shape: api.Shape{Ptrs: 3, Data: 1}, Ptrs: []int{2, -1, 3}, Nums: []int{-5}},
		{Serial: 5},
		{Serial: 4, Shape: api.Shape{Ptrs: 2, Data: 2}, Freed: true, Ptrs: []int{2, 1}, Nums: []int{maxInt, minInt}},
		{Serial: 2, Shape: api.Shape{Ptrs: 2, Final: true}, Ptrs: []int{4, 0}},
		{Serial: 3, Shape: api.Shape{Ptrs: 1, Weak: true}, Ptrs: []int{2}},
	}, []int{0, -1, 1, 0}, api.OK)
	canons(t, a, []int{40, 70}, []api.Node{
		{Serial: 3, Shape: api.Shape{Ptrs: 1, Weak: true}, Ptrs: []int{-2}},
		{Serial: 5},
	}, []int{0, 1}, api.OK)
	unchanged(t, a, l)
}

// TestCanonOfWeakOnes has where a weak one leads come to ahead of it, behind it and not at all, 0, itself, no object's place, and bits that no pointer may be made.
func TestCanonOfWeakOnes(t *testing.T) {
	for _, x := range []struct {
		to    uint64
		roots []int
		want  int
	}{
		{20, []int{4}, -2}, {20, []int{4, 20}, 1}, {20, []int{20, 4}, 0}, {20, []int{4, 40}, 2}, {20, []int{40, 4}, 2}, {20, []int{30, 4}, -2},
		{0, []int{4}, -1}, {0, []int{4, 0, 20}, -1},
		{4, []int{4}, 0}, {4, []int{30, 4}, 1}, {4, []int{30, 30, 0, 4, 40}, 1},
		{21, []int{4, 20}, -2}, {50, []int{4}, -2}, {55, []int{4, 20}, -2}, {59, []int{4}, -2}, {60, []int{4}, -2}, {mostPlace, []int{4}, -2}, {mostPlace + 1, []int{4}, -2},
		{all, []int{4}, -2}, {all - 1, []int{4}, -2}, {high, []int{4}, -2}, {high - 1, []int{4}, -2}, {1<<32 + 20, []int{4, 20}, -2}, {high + 20, []int{4, 20}, -2}, {1, []int{4, 20, 30}, -2},
	} {
		for _, is := range []bool{false, true} {
			l := lay(60, thing{at: 4, weak: true, freed: is, serial: 6, ptrs: []int{int(x.to)}}, thing{at: 20}, thing{at: 30}, thing{at: 40, ptrs: []int{20}})
			l[50] = goneTo(20)
			a := laid(t, l)
			nodes, seats, e := Canon(a, x.roots)
			want := []api.Node{{Serial: 6, Shape: api.Shape{Ptrs: 1, Weak: true}, Freed: is, Ptrs: []int{x.want}}}
			k := slices.Index(x.roots, 4)
			if e != api.OK || len(seats) != len(x.roots) || !sameNodes(nodes[seats[k]:seats[k]+1], want) {
				t.Errorf("Canon(%v) of a weak one to %d: %+v, %v, error %d", x.roots, x.to, nodes, seats, e)
			}
			run(t, heads(), l, x.roots)
		}
	}
}

// TestCanonTellsNothingOfSecondWords has the same objects free, held, and with a second word that is none.
func TestCanonTellsNothingOfSecondWords(t *testing.T) {
	var first []api.Node
	for k, second := range []uint64{0, 2, 15, 2 * mostStamp, all} {
		a := laid(t, lay(30, thing{at: 4, second: second, serial: 9, ptrs: []int{20}}, thing{at: 20, second: second, nums: []int{3}}))
		nodes, _, e := Canon(a, []int{4})
		if k == 0 {
			first = nodes
		}
		if !sameNodes(nodes, first) || len(nodes) != 2 || e != api.OK {
			t.Errorf("Canon: %+v, error %d", nodes, e)
		}
	}
}

func TestCanonOfRoots(t *testing.T) {
	a := laid(t, lay(60, thing{at: 4, ptrs: []int{20}}, thing{at: 20}, thing{at: 30, ptrs: []int{4}}, thing{at: 40}))
	for _, x := range []struct{ roots, want []int }{
		{[]int{4}, []int{0}}, {[]int{0}, []int{-1}}, {[]int{0, 4}, []int{-1, 0}}, {[]int{4, 0}, []int{0, -1}}, {[]int{4, 4}, []int{0, 0}}, {[]int{20, 4}, []int{0, 1}}, {[]int{4, 20}, []int{0, 1}},
		{[]int{30, 20, 4, 30, 0, 40, 20, 40}, []int{0, 1, 2, 0, -1, 3, 1, 3}}, {[]int{0, 0, 40, 0, 4, 40}, []int{-1, -1, 0, -1, 1, 0}},
	} {
		if _, seats, e := Canon(a, x.roots); !slices.Equal(seats, x.want) || e != api.OK {
			t.Errorf("Canon(%v): %v, error %d, not %v", x.roots, seats, e, x.want)
		}
	}
}

// G3

// some are nodes with fields of all kinds, new ones each time.
func some() []api.Node {
	return []api.Node{
		{Serial: 3, Shape: api.Shape{Ptrs: 2, Data: 2}, Ptrs: []int{1, -1}, Nums: []int{5, -6}},
		{Serial: 4, Shape: api.Shape{Ptrs: 1, Weak: true}, Freed: true, Ptrs: []int{-2}, Nums: []int{}},
		{Serial: 5, Shape: api.Shape{Data: 1, Final: true}, Nums: []int{maxInt}},
	}
}

// changes are what may be other of a node, each one thing alone.
func changes() map[string]func(n *api.Node) {
	return map[string]func(n *api.Node){
		"Serial":         func(n *api.Node) { n.Serial++ },
		"Serial, far":    func(n *api.Node) { n.Serial += 1 << 32 },
		"Shape.Ptrs":     func(n *api.Node) { n.Shape.Ptrs++ },
		"Shape.Data":     func(n *api.Node) { n.Shape.Data-- },
		"Shape.Weak":     func(n *api.Node) { n.Shape.Weak = !n.Shape.Weak },
		"Shape.Final":    func(n *api.Node) { n.Shape.Final = !n.Shape.Final },
		"Freed":          func(n *api.Node) { n.Freed = !n.Freed },
		"Ptrs, longer":   func(n *api.Node) { n.Ptrs = append(n.Ptrs, 0) },
		"Nums, longer":   func(n *api.Node) { n.Nums = append(n.Nums, 0) },
		"Ptrs, another":  func(n *api.Node) { n.Ptrs = other(n.Ptrs, 0) },
		"Nums, another":  func(n *api.Node) { n.Nums = other(n.Nums, 0) },
		"Ptrs, the last": func(n *api.Node) { n.Ptrs = other(n.Ptrs, len(n.Ptrs)-1) },
		"Nums, the last": func(n *api.Node) { n.Nums = other(n.Nums, len(n.Nums)-1) },
		"Ptrs, shorter":  func(n *api.Node) { n.Ptrs = shorter(n.Ptrs) },
		"Nums, shorter":  func(n *api.Node) { n.Nums = shorter(n.Nums) },
	}
}

// other is a list with another element in a place, or with one more, if it has none.
func other(l []int, i int) []int {
	if len(l) == 0 {
		return []int{7}
	}
	l = slices.Clone(l)
	l[i]--
	return l
}

// shorter is a list without its last element, or with one, if it has none.
func shorter(l []int) []int {
	if len(l) == 0 {
		return []int{0}
	}
	return l[:len(l)-1]
}

func TestSame(t *testing.T) {
	a := some()
	for k := range len(a) + 1 {
		if !Same(a[:k], a[:k]) || !Same(a[:k], some()[:k]) || !Same(some()[k:], a[k:]) {
			t.Errorf("%d of them are not the same", k)
		}
		for n := range len(a) + 1 {
			if got := Same(a[:k], some()[:n]); got != (k == n) {
				t.Errorf("Same of %d and %d of them: %v", k, n, got)
			}
		}
	}
}

func TestSameOfOneFieldThatIsNot(t *testing.T) {
	for name, change := range changes() {
		for k := range some() {
			a, b := some(), some()
			change(&b[k])
			if Same(a, b) || Same(b, a) {
				t.Errorf("%s of node %d is another one, and they are the same", name, k)
			}
			change(&a[k])
			if !Same(a, b) || !Same(b, b) {
				t.Errorf("%s of both nodes %d is another one, and they are not the same", name, k)
			}
		}
	}
}

func TestSameHangsOnOrder(t *testing.T) {
	a, b := some(), some()
	b[0], b[1] = b[1], b[0]
	if Same(a, b) || Same(b, a) {
		t.Errorf("they stand in another order, and are the same")
	}
	a[0].Ptrs, b = []int{1, 2}, some()
	b[0].Ptrs = []int{2, 1}
	if Same(a, b) {
		t.Errorf("pointers stand in another order, and are the same")
	}
	// What is a pointer of one is a number of the other.
	a[0].Ptrs, a[0].Nums = []int{1, 2}, nil
	b[0].Ptrs, b[0].Nums = nil, []int{1, 2}
	if Same(a, b) {
		t.Errorf("pointers are the same as numbers")
	}
}

func TestSameOfListsWithoutElements(t *testing.T) {
	if !Same(nil, nil) || !Same(nil, []api.Node{}) || !Same([]api.Node{}, nil) || !Same([]api.Node{}, make([]api.Node, 0, 4)) {
		t.Errorf("lists without elements are not the same")
	}
	if Same(nil, []api.Node{{}}) || Same([]api.Node{{}}, nil) || Same([]api.Node{}, []api.Node{{}}) {
		t.Errorf("a list without elements is one with an element")
	}
	without := []api.Node{{}, {Ptrs: []int{}}, {Nums: []int{}}, {Ptrs: []int{}, Nums: make([]int, 0, 3)}}
	for _, x := range without {
		for _, y := range without {
			if !Same([]api.Node{x}, []api.Node{y}) {
				t.Errorf("%+v and %+v are not the same", x, y)
			}
		}
		for _, y := range []api.Node{{Ptrs: []int{0}}, {Nums: []int{0}}} {
			if Same([]api.Node{x}, []api.Node{y}) || Same([]api.Node{y}, []api.Node{x}) {
				t.Errorf("%+v and %+v are the same", x, y)
			}
		}
	}
}

// TestSameOfAnyNodes has nodes that no object may be: nothing but their fields is asked.
func TestSameOfAnyNodes(t *testing.T) {
	odd := []api.Node{
		{Serial: minInt, Shape: api.Shape{Ptrs: minInt, Data: maxInt, Weak: true, Final: true}, Freed: true, Ptrs: []int{minInt, maxInt}},
		{Serial: -1, Shape: api.Shape{Ptrs: 3}, Nums: []int{1}},
	}
	if !Same(odd, slices.Clone(odd)) || Same(odd[:1], odd[1:]) {
		t.Errorf("nodes that no object may be are not the same, or are another's")
	}
}

func TestSameWritesNothing(t *testing.T) {
	a, b := some(), some()
	b[2].Nums[0] = 9
	Same(a, b)
	if !sameNodes(a, some()) {
		t.Errorf("the nodes are %+v", a)
	}
	b[2].Nums[0] = maxInt
	if !sameNodes(b, some()) {
		t.Errorf("the nodes are %+v", b)
	}
}

// G4

// anyThings are objects of all kinds at places that lie apart, with pointers to one another.
func anyThings(pick func(n int) int, n, apart int) []thing {
	places := make([]int, n)
	for k := range places {
		places[k] = 1 + k*apart
	}
	l := make([]thing, n)
	for k := range l {
		x := thing{at: places[k], serial: k + 1, second: uint64(2 * k), freed: pick(4) == 0}
		if x.weak = pick(4) == 0; x.weak {
			x.ptrs = []int{places[pick(n)]}
			l[k] = x
			continue
		}
		x.final = pick(3) == 0
		for range pick(4) {
			x.ptrs = append(x.ptrs, append(places, 0, 0)[pick(n+2)])
		}
		for range pick(3) {
			x.nums = append(x.nums, pick(100)-50)
		}
		l[k] = x
	}
	return l
}

// TestReachIsClosed holds what Reach tells against a set that is made by going on until nothing more comes to it.
func TestReachIsClosed(t *testing.T) {
	for start := range 300 {
		pick := chance(start)
		things := anyThings(pick, 2+pick(12), 10)
		l := lay(150, things...)
		roots := []int{things[pick(len(things))].at, things[pick(len(things))].at}
		in := map[int]int{roots[0]: 1, roots[1]: 1}
		for more := true; more; {
			more = false
			for _, x := range things {
				if in[x.at] == 0 || x.weak {
					continue
				}
				for _, p := range x.ptrs {
					if p != 0 && in[p] == 0 {
						in[p], more = 1, true
					}
				}
			}
		}
		got, e := Reach(laid(t, l), roots)
		if e != api.OK || !slices.Equal(slices.Sorted(slices.Values(got)), slices.Sorted(maps.Keys(in))) {
			t.Errorf("Reach(%v) of %+v: %v, error %d", roots, things, got, e)
		}
	}
}

// turn turns all pointers of objects at places, and roots, to where what is gone is.
func turn(t *testing.T, a *arena.Arena, places, roots []int) {
	t.Helper()
	for _, at := range places {
		s, _, e := object.Shape(a, at)
		if e != api.OK {
			t.Fatalf("Shape(%d): error %d", at, e)
		}
		for i := range s.Ptrs {
			p, _ := object.Ptr(a, at, i)
			if where, gone := mover.At(a, p); gone {
				object.SetPtr(a, at, i, where)
			}
		}
	}
	for i, p := range roots {
		if where, gone := mover.At(a, p); gone {
			roots[i] = where
		}
	}
}

// TestCopiedElsewhere copies objects one by one, in an order of chance, into a space behind them; ahead of each turn, and behind it, Canon is the same.
func TestCopiedElsewhere(t *testing.T) {
	for start := range 100 {
		pick := chance(start)
		things := anyThings(pick, 2+pick(9), 12)
		a := laid(t, lay(300, things...))
		var places []int
		for _, x := range things {
			places = append(places, x.at)
		}
		roots := []int{places[pick(len(places))], 0, places[pick(len(places))], places[pick(len(places))]}
		nodes, seats, e := Canon(a, roots)
		if e != api.OK || len(nodes) == 0 {
			t.Fatalf("Canon: %+v, error %d", nodes, e)
		}
		s, _ := space.Make(150, 150)
		for range 2 * len(places) {
			k := pick(len(places))
			if places[k] >= 150 {
				continue
			}
			after, to, e := mover.Copy(a, places[k], s)
			if e != api.OK {
				t.Fatalf("Copy(%d): error %d", places[k], e)
			}
			s, places[k] = after, to
			turn(t, a, places, roots)
			again, other, e := Canon(a, roots)
			if !sameNodes(again, nodes) || !Same(again, nodes) || !slices.Equal(other, seats) || e != api.OK {
				t.Errorf("Canon behind Copy: %+v, %v, error %d, not %+v, %v", again, other, e, nodes, seats)
			}
		}
	}
}

// TestLaidInAnotherOrder lays the same objects at other places, all of them: first to last, and by a stride.
func TestLaidInAnotherOrder(t *testing.T) {
	for start := range 100 {
		pick := chance(start)
		things := anyThings(pick, 11, 10)
		roots := []int{things[pick(11)].at, things[pick(11)].at}
		nodes, seats, e := Canon(laid(t, lay(200, things...)), roots)
		if e != api.OK {
			t.Fatalf("Canon: error %d", e)
		}
		for stride := 1; stride < 11; stride++ {
			where := func(p int) int {
				if p == 0 {
					return 0
				}
				return 3 + p/10*stride%11*12
			}
			moved := make([]thing, len(things))
			for k, x := range things {
				x.at = where(x.at)
				x.ptrs = slices.Clone(x.ptrs)
				for i, p := range x.ptrs {
					x.ptrs[i] = where(p)
				}
				moved[k] = x
			}
			again, other, e := Canon(laid(t, lay(200, moved...)), []int{where(roots[0]), where(roots[1])})
			if !sameNodes(again, nodes) || !Same(again, nodes) || !slices.Equal(other, seats) || e != api.OK {
				t.Errorf("Canon by %d: %+v, %v, error %d, not %+v, %v", stride, again, other, e, nodes, seats)
			}
		}
	}
}

// TestAnyWords holds Reach and Canon against the rules on objects with pointers of all kinds, some of which lead to none, and on words of chance.
func TestAnyWords(t *testing.T) {
	heads := heads()
	for start := range 1500 {
		pick := chance(start)
		things := anyThings(pick, 2+pick(6), 10)
		l := lay(70, things...)
		for range pick(4) {
			l[pick(len(l))] = []uint64{0, 1, 3, goneTo(11), 517, uint64(pick(80)), 2048 + 35, all}[pick(8)]
		}
		var lists [][]int
		for range 6 {
			var roots []int
			for range pick(5) {
				roots = append(roots, []int{0, things[0].at, things[pick(len(things))].at, things[pick(len(things))].at, pick(80) - 5}[pick(5)])
			}
			lists = append(lists, roots)
		}
		run(t, heads, l, lists...)
	}
}

// R3

// graphOfThree is three objects, each with pointers and numbers.
func graphOfThree() []uint64 {
	return lay(60,
		thing{at: 4, serial: 1, ptrs: []int{20, 40}, nums: []int{1, 2}},
		thing{at: 20, serial: 2, ptrs: []int{40}, nums: []int{3}},
		thing{at: 40, serial: 3, ptrs: []int{0, 4}, nums: []int{4, 5}},
	)
}

// nodesOfThree is what Canon tells of them from the first one on.
func nodesOfThree() []api.Node {
	return []api.Node{
		{Serial: 1, Shape: api.Shape{Ptrs: 2, Data: 2}, Ptrs: []int{1, 2}, Nums: []int{1, 2}},
		{Serial: 2, Shape: api.Shape{Ptrs: 1, Data: 1}, Ptrs: []int{2}, Nums: []int{3}},
		{Serial: 3, Shape: api.Shape{Ptrs: 2, Data: 2}, Ptrs: []int{-1, 0}, Nums: []int{4, 5}},
	}
}

func TestListsAreNewMemory(t *testing.T) {
	l := graphOfThree()
	a := laid(t, l)
	roots := []int{4, 20, 0}
	for range 2 {
		order, _ := Reach(a, roots)
		other, _ := Reach(a, roots)
		for i := range order[:cap(order)] {
			order[:cap(order)][i] = -5
		}
		order = append(order, -5, -5, -5, -5)
		if !slices.Equal(other, []int{4, 20, 40}) {
			t.Errorf("Reach: %v behind what was done to %v", other, order)
		}
		nodes, seats, _ := Canon(a, roots)
		again, seatsAgain, _ := Canon(a, roots)
		spoil(nodes)
		for i := range seats {
			seats[i] = -5
		}
		seats = append(seats, -5, -5, -5, -5)
		if !sameNodes(again, nodesOfThree()) || !slices.Equal(seatsAgain, []int{0, 1, -1}) {
			t.Errorf("Canon: %+v, %v behind what was done to %v", again, seatsAgain, seats)
		}
		unchanged(t, a, l)
	}
}

// spoil writes into nodes, into their lists, and behind these.
func spoil(nodes []api.Node) {
	for i := range nodes {
		n := &nodes[i]
		for k := range n.Ptrs {
			n.Ptrs[k] = -5
		}
		for k := range n.Nums {
			n.Nums[k] = -5
		}
		n.Ptrs = append(n.Ptrs, -5, -5, -5)
		n.Nums = append(n.Nums, -5, -5, -5)
		n.Serial, n.Freed, n.Shape = -5, true, api.Shape{}
	}
}

// TestListsOfOneAnswerLieApart grows each list of one node, and looks at all others.
func TestListsOfOneAnswerLieApart(t *testing.T) {
	a := laid(t, graphOfThree())
	for k := range 3 {
		nodes, seats, _ := Canon(a, []int{4, 20, 40})
		spoil(nodes[k : k+1])
		want := nodesOfThree()
		spoil(want[k : k+1])
		if !sameNodes(nodes, want) || !slices.Equal(seats, []int{0, 1, 2}) {
			t.Errorf("behind what was done to node %d: %+v, %v", k, nodes, seats)
		}
		for i := range seats {
			seats[i] = -9
		}
		if !sameNodes(nodes, want) {
			t.Errorf("behind what was done to the roots' places: %+v", nodes)
		}
	}
}

func TestRootsAreNotKeptOrWritten(t *testing.T) {
	a := laid(t, graphOfThree())
	spare := []int{20, 0, 20, 70, 71, 72, 73, 74}
	want := slices.Clone(spare)
	order, e := Reach(a, spare[:3])
	if !slices.Equal(order, []int{20, 40, 4}) || e != api.OK {
		t.Errorf("Reach: %v, error %d", order, e)
	}
	nodes, seats, e := Canon(a, spare[:3])
	if len(nodes) != 3 || !slices.Equal(seats, []int{0, -1, 0}) || e != api.OK {
		t.Errorf("Canon: %+v, %v, error %d", nodes, seats, e)
	}
	fails(t, a, spare[:4], api.ErrAddr)
	if !slices.Equal(spare, want) {
		t.Errorf("the roots are %v, not %v", spare, want)
	}
	kept := slices.Clone(nodes)
	for i := range spare {
		spare[i] = 99
	}
	if !slices.Equal(order, []int{20, 40, 4}) || !slices.Equal(seats, []int{0, -1, 0}) || !sameNodes(nodes, kept) {
		t.Errorf("behind what was done to the roots: %v, %v, %+v", order, seats, nodes)
	}
	for i := range order {
		order[i] = 98
	}
	for i := range seats {
		seats[i] = 98
	}
	if !slices.Equal(spare, slices.Repeat([]int{99}, len(want))) {
		t.Errorf("the roots are %v", spare)
	}
}

// TestAnswersDoNotFollowTheArena changes the arena behind an answer: the answer stays.
func TestAnswersDoNotFollowTheArena(t *testing.T) {
	a := laid(t, graphOfThree())
	order, _ := Reach(a, []int{4})
	nodes, seats, _ := Canon(a, []int{4})
	a.Fill(0, a.Len(), 0)
	if !slices.Equal(order, []int{4, 20, 40}) || !slices.Equal(seats, []int{0}) || !sameNodes(nodes, nodesOfThree()) {
		t.Errorf("they are %v, %v, %+v", order, seats, nodes)
	}
	fails(t, a, []int{4}, api.ErrObject)
}

// R4

// TestAnswersHangOnTheArenaAlone asks of two arenas, of the one again behind the other, and behind errors.
func TestAnswersHangOnTheArenaAlone(t *testing.T) {
	a, other := laid(t, graphOfThree()), laid(t, lay(60, thing{at: 4, serial: 8, ptrs: []int{4}}))
	for range 3 {
		canons(t, a, []int{4}, nodesOfThree(), []int{0}, api.OK)
		canons(t, other, []int{4}, []api.Node{{Serial: 8, Shape: api.Shape{Ptrs: 1}, Ptrs: []int{0}}}, []int{0}, api.OK)
		fails(t, other, []int{4, 20}, api.ErrObject)
		reaches(t, a, []int{20}, []int{20, 40, 4}, api.OK)
		reaches(t, a, []int{40}, []int{40, 4, 20}, api.OK)
		fails(t, a, []int{60}, api.ErrAddr)
	}
	// Changed, it answers what is there now, and nothing of what was.
	if e := object.SetPtr(a, 4, 0, 0); e != api.OK {
		t.Fatalf("SetPtr: error %d", e)
	}
	reaches(t, a, []int{4}, []int{4, 40}, api.OK)
}
