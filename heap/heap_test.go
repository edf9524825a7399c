package heap

import (
	"fmt"
	"math"
	"slices"
	"testing"

	"middenheap/api"
	"middenheap/mover"
)

// The bounds are written out, as are the words below: nothing of the program is held against itself.
const (
	leastWords = 16
	mostSpace  = 16384
	mostField  = 8
	mostSerial = 1 << 40
	all        = ^uint64(0)
	maxInt     = math.MaxInt
	minInt     = math.MinInt
)

// goneTo is the word of an object that is at another place now.
func goneTo(at int) uint64 { return 4*uint64(at) + 2 }

// headOf is a Head as a sum: 1, 2 times the pointers, 32 times the numbers, and 512, 1024, 2048 of a weak one, of one to be finalized, of one that is freed.
func headOf(s api.Shape, freed bool) uint64 {
	w := 1 + 2*uint64(s.Ptrs) + 32*uint64(s.Data)
	for _, x := range []struct {
		is  bool
		bit uint64
	}{{s.Weak, 512}, {s.Final, 1024}, {freed, 2048}} {
		if x.is {
			w += x.bit
		}
	}
	return w
}

// shapeOf is what a Head is made of; these tests lay none that is not right.
func shapeOf(w uint64) (s api.Shape, freed bool) {
	return api.Shape{Ptrs: int(w / 2 % 16), Data: int(w / 32 % 16), Weak: w/512%2 == 1, Final: w/1024%2 == 1}, w/2048%2 == 1
}

// sizeOf is how many words an object of a right shape has, and how many it takes.
func sizeOf(s api.Shape) (size, takes int) {
	size = 3 + s.Ptrs + s.Data
	for _, takes = range []int{4, 6, 8, 12, 16, 24} {
		if size <= takes {
			break
		}
	}
	return size, takes
}

// isRight tells whether a shape may be.
func isRight(s api.Shape) bool {
	return slices.Contains(shapes(), s)
}

// zig is a number's word: 0, 1, 2 .. are the even ones, -1, -2 .. the odd ones.
func zig(n int) uint64 {
	if n < 0 {
		return 2*uint64(-(n+1)) + 1
	}
	return 2 * uint64(n)
}

// zag is the number of a word.
func zag(w uint64) int {
	if w%2 == 1 {
		return -int(w/2) - 1
	}
	return int(w / 2)
}

// Some shapes: of so many pointers and numbers, so to be finalized, and a weak one.
func has(ptrs, data int) api.Shape   { return api.Shape{Ptrs: ptrs, Data: data} }
func final(ptrs, data int) api.Shape { return api.Shape{Ptrs: ptrs, Data: data, Final: true} }

var weak = api.Shape{Ptrs: 1, Weak: true}

// shapes are all right ones.
func shapes() []api.Shape {
	l := []api.Shape{weak}
	for ptrs := range mostField + 1 {
		for data := range mostField + 1 {
			l = append(l, has(ptrs, data), final(ptrs, data))
		}
	}
	return l
}

// wrongShapes are some that are not right.
func wrongShapes() []api.Shape {
	return []api.Shape{
		has(-1, 0), has(0, -1), has(9, 0), has(0, 9), has(9, 9), has(-1, -1), has(8, 9), has(9, 8), has(1, -1),
		has(minInt, 0), has(0, minInt), has(maxInt, 0), has(0, maxInt), has(maxInt, maxInt), has(minInt, minInt), has(1<<32, 0), has(0, 1<<62),
		final(-1, 0), final(0, 9), final(9, 0),
		{Weak: true}, {Ptrs: 2, Weak: true}, {Ptrs: 1, Data: 1, Weak: true}, {Data: 1, Weak: true}, {Ptrs: 1, Weak: true, Final: true}, {Ptrs: 1, Data: -1, Weak: true}, {Ptrs: -1, Weak: true},
	}
}

// stretch is a space as the rules have it.
type stretch struct{ base, size, top int }

// rules is the chapter, word for word, on a list of words: what is here, there and owed is reckoned each time.
type rules struct {
	l             []uint64
	spaces        [2]stretch
	inUse         int
	moving        bool
	scanAt, last  int
	weaks, finals []int
}

// ruled is a new heap by the rules.
func ruled(words int) *rules {
	return &rules{l: make([]uint64, 2*words+1), spaces: [2]stretch{{1, words, 1}, {1 + words, words, 1 + words}}}
}

// gone is where the object is that has gone from a place.
func (r *rules) gone(at int) (int, bool) {
	if w := r.l[at]; w%4 == 2 {
		return int(w / 4), true
	}
	return 0, false
}

// shape is the shape of what stands at a place, also if it has gone.
func (r *rules) shapeAt(at int) (api.Shape, bool) {
	if to, is := r.gone(at); is {
		at = to
	}
	return shapeOf(r.l[at])
}

// walk goes from object to object of a space.
func (r *rules) walk(which int) []int {
	var l []int
	for at := r.spaces[which].base; at < r.spaces[which].top; {
		l = append(l, at)
		s, _ := r.shapeAt(at)
		_, takes := sizeOf(s)
		at += takes
	}
	return l
}

func (r *rules) isHere(at int) bool  { return slices.Contains(r.walk(r.inUse), at) }
func (r *rules) isThere(at int) bool { return r.moving && slices.Contains(r.walk(1-r.inUse), at) }

// stays tells whether an object is there, and has not gone.
func (r *rules) stays(at int) bool {
	if !r.isThere(at) {
		return false
	}
	_, is := r.gone(at)
	return !is
}

// owed is the words of all that is there, and has not gone.
func (r *rules) owed() int {
	sum := 0
	for _, at := range r.walk(1 - r.inUse) {
		if r.stays(at) {
			s, _ := r.shapeAt(at)
			_, takes := sizeOf(s)
			sum += takes
		}
	}
	return sum
}

func (r *rules) room() int {
	s := r.spaces[r.inUse]
	return s.size - (s.top - s.base) - r.owed()
}

func (r *rules) alloc(s api.Shape) (int, api.Errno) {
	if !isRight(s) {
		return 0, api.ErrArg
	}
	size, takes := sizeOf(s)
	if takes > r.room() || r.last == mostSerial {
		return 0, api.ErrMemory
	}
	at := r.spaces[r.inUse].top
	r.spaces[r.inUse].top += takes
	r.last++
	clear(r.l[at : at+size])
	r.l[at], r.l[at+2] = headOf(s, false), uint64(r.last)
	if s.Weak {
		r.weaks = append(r.weaks, at)
	}
	if s.Final {
		r.finals = append(r.finals, at)
	}
	return at, api.OK
}

// field is the place of a pointer, or of a number, of what is here.
func (r *rules) field(at, i int, num bool) (int, api.Errno) {
	if !r.isHere(at) {
		return 0, api.ErrObject
	}
	s, _ := r.shapeAt(at)
	n, from := s.Ptrs, at+3
	if num {
		n, from = s.Data, at+3+s.Ptrs
	}
	if i < 0 || i >= n {
		return 0, api.ErrField
	}
	return from + i, api.OK
}

func (r *rules) ptr(at, i int) (int, api.Errno) {
	place, e := r.field(at, i, false)
	if e != api.OK {
		return 0, e
	}
	if p := int(r.l[place]); r.isThere(p) {
		r.l[place] = uint64(r.moved(p))
	}
	return int(r.l[place]), api.OK
}

func (r *rules) setPtr(at, i, p int) api.Errno {
	if !r.isHere(at) || p != 0 && !r.isHere(p) {
		return api.ErrObject
	}
	place, e := r.field(at, i, false)
	if e == api.OK {
		r.l[place] = uint64(p)
	}
	return e
}

func (r *rules) flip() bool {
	if r.moving {
		return false
	}
	r.moving = true
	r.inUse = 1 - r.inUse
	r.spaces[r.inUse].top = r.spaces[r.inUse].base
	r.scanAt = r.spaces[r.inUse].base
	return true
}

func (r *rules) moved(p int) int {
	if !r.isThere(p) {
		return p
	}
	if to, is := r.gone(p); is {
		return to
	}
	s, _ := r.shapeAt(p)
	size, takes := sizeOf(s)
	to := r.spaces[r.inUse].top
	r.spaces[r.inUse].top += takes
	copy(r.l[to:to+size], r.l[p:])
	r.l[p] = goneTo(to)
	return to
}

func (r *rules) scan() bool {
	if !r.moving || r.scanAt == r.spaces[r.inUse].top {
		return false
	}
	s, _ := r.shapeAt(r.scanAt)
	if !s.Weak {
		for i := range s.Ptrs {
			place := r.scanAt + 3 + i
			r.l[place] = uint64(r.moved(int(r.l[place])))
		}
	}
	_, takes := sizeOf(s)
	r.scanAt += takes
	return true
}

// settle is a list without those that are there, and have not gone, which are told beside it; what has gone is where it is.
func (r *rules) settle(l []int) (kept, left []int) {
	for _, at := range l {
		if r.stays(at) {
			left = append(left, at)
			continue
		}
		if r.isThere(at) {
			at, _ = r.gone(at)
		}
		kept = append(kept, at)
	}
	return kept, left
}

func (r *rules) tellFinals() []int {
	if !r.moving {
		return nil
	}
	kept, left := r.settle(r.finals)
	r.finals = kept
	var l []int
	for _, at := range left {
		l = append(l, r.moved(at))
	}
	return l
}

func (r *rules) drop() ([]int, bool) {
	if !r.moving || r.scanAt != r.spaces[r.inUse].top {
		return nil, false
	}
	r.weaks, _ = r.settle(r.weaks)
	r.finals, _ = r.settle(r.finals)
	var lost []int
	for _, at := range r.weaks {
		p := int(r.l[at+3])
		if !r.isThere(p) {
			continue
		}
		to, is := r.gone(p)
		r.l[at+3] = uint64(to)
		if !is {
			lost = append(lost, int(r.l[at+2]))
		}
	}
	r.moving = false
	r.spaces[1-r.inUse].top = r.spaces[1-r.inUse].base
	return lost, true
}

// where is what a pointer counts as leading to.
func (r *rules) where(p int) int {
	if r.isThere(p) {
		if to, is := r.gone(p); is {
			return to
		}
	}
	return p
}

// seat is a place's place in the order; -1 for 0, -2 of what is not there.
func seat(order []int, p int) int {
	if p == 0 {
		return -1
	}
	if k := slices.Index(order, p); k >= 0 {
		return k
	}
	return -2
}

func (r *rules) canon(roots []int) ([]api.Node, []int, api.Errno) {
	var order []int
	come := func(p int) {
		if p != 0 && !slices.Contains(order, p) {
			order = append(order, p)
		}
	}
	for _, p := range roots {
		if p != 0 && !r.isHere(p) {
			return nil, nil, api.ErrObject
		}
		come(p)
	}
	for k := 0; k < len(order); k++ {
		s, _ := r.shapeAt(order[k])
		for i := range s.Ptrs {
			if !s.Weak {
				come(r.where(int(r.l[order[k]+3+i])))
			}
		}
	}
	var nodes []api.Node
	for _, at := range order {
		s, freed := r.shapeAt(at)
		n := api.Node{Serial: int(r.l[at+2]), Shape: s, Freed: freed}
		for i := range s.Ptrs {
			n.Ptrs = append(n.Ptrs, seat(order, r.where(int(r.l[at+3+i]))))
		}
		for i := range s.Data {
			n.Nums = append(n.Nums, zag(r.l[at+3+s.Ptrs+i]))
		}
		nodes = append(nodes, n)
	}
	var seats []int
	for _, p := range roots {
		seats = append(seats, seat(order, p))
	}
	return nodes, seats, api.OK
}

// both is a heap and the rules beside it: whatever is done to the one is done to the other, and held against it.
type both struct {
	t *testing.T
	h *Heap
	r *rules
	// seldom is that not all words are looked at behind each call.
	seldom bool
}

// heap is both, of so many words a space.
func heap(t *testing.T, words int) *both {
	t.Helper()
	h, e := New(words)
	if e != api.OK || h == nil {
		t.Fatalf("New(%d): %v, error %d", words, h, e)
	}
	b := &both{t: t, h: h, r: ruled(words)}
	b.looks()
	return b
}

// of is several answers as one.
func of(l ...any) []any { return l }

// want holds what was told against what is to be.
func (b *both) want(what string, got, want any) {
	b.t.Helper()
	if g, w := fmt.Sprint(got), fmt.Sprint(want); g != w {
		b.t.Errorf("%s: %s, not %s", what, g, w)
	}
}

// did holds an answer against the rules', and then all that is there.
func (b *both) did(what string, got, want []any) {
	b.t.Helper()
	if g, w := fmt.Sprint(got), fmt.Sprint(want); g != w {
		b.t.Fatalf("%s: %s, by the rules %s", what, g, w)
	}
	if !b.seldom {
		b.looks()
	}
}

// looks holds each word of a heap, its room, whether it is moving, and what is here against the rules.
func (b *both) looks() {
	b.t.Helper()
	if n := b.h.words.Len(); n != len(b.r.l) {
		b.t.Fatalf("%d words, not %d", n, len(b.r.l))
	}
	for at, want := range b.r.l {
		if w, e := b.h.words.Load(at); w != want || e != api.OK {
			b.t.Fatalf("the word at %d is %d, by the rules %d", at, w, want)
		}
	}
	if got, want := b.h.Room(), b.r.room(); got != want {
		b.t.Fatalf("Room is %d, by the rules %d", got, want)
	}
	if got := b.h.Moving(); got != b.r.moving {
		b.t.Fatalf("Moving is %v", got)
	}
	here := b.r.walk(b.r.inUse)
	for at := -2; at < len(b.r.l)+2; at++ {
		if got, want := b.h.Here(at), slices.Contains(here, at); got != want {
			b.t.Fatalf("Here(%d) is %v, by the rules %v", at, got, want)
		}
	}
	// What is kept of each space is what mover tells of it.
	for which, s := range b.h.spaces {
		if l := mover.Walk(b.h.words, s); !slices.Equal(b.h.places[which], l) {
			b.t.Fatalf("the objects of space %d are at %v, Walk tells %v", which, b.h.places[which], l)
		}
	}
	if !slices.Equal(b.h.weaks, b.r.weaks) || !slices.Equal(b.h.finals, b.r.finals) {
		b.t.Fatalf("the lists are %v and %v, by the rules %v and %v", b.h.weaks, b.h.finals, b.r.weaks, b.r.finals)
	}
}

func (b *both) room() int {
	b.t.Helper()
	b.did("Room", of(b.h.Room()), of(b.r.room()))
	return b.h.Room()
}

func (b *both) alloc(s api.Shape) (int, api.Errno) {
	b.t.Helper()
	at, e := b.h.Alloc(s)
	b.did(fmt.Sprintf("Alloc(%+v)", s), of(at, e), of(b.r.alloc(s)))
	return at, e
}

// lays is alloc, of what is to be at a place.
func (b *both) lays(s api.Shape, want int) int {
	b.t.Helper()
	at, e := b.alloc(s)
	b.want(fmt.Sprintf("Alloc(%+v)", s), of(at, e), of(want, api.OK))
	return at
}

func (b *both) shape(at int) (api.Shape, bool, api.Errno) {
	b.t.Helper()
	s, freed, e := b.h.Shape(at)
	want := of(api.Shape{}, false, api.ErrObject)
	if b.r.isHere(at) {
		s, freed := b.r.shapeAt(at)
		want = of(s, freed, api.OK)
	}
	b.did(fmt.Sprintf("Shape(%d)", at), of(s, freed, e), want)
	return s, freed, e
}

func (b *both) serial(at int) (int, api.Errno) {
	b.t.Helper()
	n, e := b.h.Serial(at)
	want := of(0, api.ErrObject)
	if b.r.isHere(at) {
		want = of(b.r.l[at+2], api.OK)
	}
	b.did(fmt.Sprintf("Serial(%d)", at), of(n, e), want)
	return n, e
}

func (b *both) second(at int) (uint64, api.Errno) {
	b.t.Helper()
	w, e := b.h.Second(at)
	want := of(0, api.ErrObject)
	if b.r.isHere(at) {
		want = of(b.r.l[at+1], api.OK)
	}
	b.did(fmt.Sprintf("Second(%d)", at), of(w, e), want)
	return w, e
}

func (b *both) setFreed(at int, freed bool) api.Errno {
	b.t.Helper()
	want := api.ErrObject
	if b.r.isHere(at) {
		s, _ := b.r.shapeAt(at)
		b.r.l[at], want = headOf(s, freed), api.OK
	}
	e := b.h.SetFreed(at, freed)
	b.did(fmt.Sprintf("SetFreed(%d, %v)", at, freed), of(e), of(want))
	return e
}

func (b *both) setSecond(at int, w uint64) api.Errno {
	b.t.Helper()
	want := api.ErrObject
	if b.r.isHere(at) {
		b.r.l[at+1], want = w, api.OK
	}
	e := b.h.SetSecond(at, w)
	b.did(fmt.Sprintf("SetSecond(%d, %d)", at, w), of(e), of(want))
	return e
}

func (b *both) ptr(at, i int) (int, api.Errno) {
	b.t.Helper()
	p, e := b.h.Ptr(at, i)
	b.did(fmt.Sprintf("Ptr(%d, %d)", at, i), of(p, e), of(b.r.ptr(at, i)))
	return p, e
}

func (b *both) setPtr(at, i, p int) api.Errno {
	b.t.Helper()
	e := b.h.SetPtr(at, i, p)
	b.did(fmt.Sprintf("SetPtr(%d, %d, %d)", at, i, p), of(e), of(b.r.setPtr(at, i, p)))
	return e
}

// points is setPtr, without an error.
func (b *both) points(at int, l ...int) {
	b.t.Helper()
	for i, p := range l {
		b.want(fmt.Sprintf("SetPtr(%d, %d, %d)", at, i, p), b.setPtr(at, i, p), api.OK)
	}
}

func (b *both) num(at, i int) (int, api.Errno) {
	b.t.Helper()
	n, e := b.h.Num(at, i)
	place, want := b.r.field(at, i, true)
	b.did(fmt.Sprintf("Num(%d, %d)", at, i), of(n, e), of(zag(b.r.l[place]), want))
	return n, e
}

func (b *both) setNum(at, i, n int) api.Errno {
	b.t.Helper()
	place, want := b.r.field(at, i, true)
	if want == api.OK {
		b.r.l[place] = zig(n)
	}
	e := b.h.SetNum(at, i, n)
	b.did(fmt.Sprintf("SetNum(%d, %d, %d)", at, i, n), of(e), of(want))
	return e
}

func (b *both) flip() bool {
	b.t.Helper()
	got := b.h.Flip()
	b.did("Flip", of(got), of(b.r.flip()))
	return got
}

func (b *both) moved(p int) int {
	b.t.Helper()
	to := b.h.Moved(p)
	b.did(fmt.Sprintf("Moved(%d)", p), of(to), of(b.r.moved(p)))
	return to
}

func (b *both) scan() bool {
	b.t.Helper()
	got := b.h.Scan()
	b.did("Scan", of(got), of(b.r.scan()))
	return got
}

// scans is scan until it is false: how often it was true.
func (b *both) scans() int {
	b.t.Helper()
	n := 0
	for b.scan() {
		n++
	}
	return n
}

func (b *both) finals() []int {
	b.t.Helper()
	l := b.h.Finals()
	b.did("Finals", of(l), of(b.r.tellFinals()))
	return l
}

func (b *both) drop() ([]int, bool) {
	b.t.Helper()
	l, is := b.h.Drop()
	b.did("Drop", of(l, is), of(b.r.drop()))
	return l, is
}

// drops is drop at the time: the serials.
func (b *both) drops() []int {
	b.t.Helper()
	l, is := b.drop()
	b.want("Drop", is, true)
	return l
}

// collects is one collection, without Finals: where the roots are, and the serials that Drop tells.
func (b *both) collects(roots ...int) (at, lost []int) {
	b.t.Helper()
	b.want("Flip", b.flip(), true)
	for _, p := range roots {
		at = append(at, b.moved(p))
	}
	b.scans()
	return at, b.drops()
}

func (b *both) canon(roots ...int) ([]api.Node, []int, api.Errno) {
	b.t.Helper()
	nodes, seats, e := b.h.Canon(roots)
	b.did(fmt.Sprintf("Canon(%v)", roots), of(nodes, seats, e), of(b.r.canon(roots)))
	return nodes, seats, e
}

// word is what stands at a place of a heap.
func (b *both) word(at int) uint64 {
	w, _ := b.h.words.Load(at)
	return w
}

// chance picks numbers by a rule of its own, so that they come the same each time.
func chance(start int) func(n int) int {
	x := uint64(start)*2 + 1
	return func(n int) int {
		x = x*6364136223846793005 + 1442695040888963407
		return int(x >> 33 % uint64(n))
	}
}

// The chapter's example

func TestExample(t *testing.T) {
	b := heap(t, 16)
	b.want("Alloc", of(b.alloc(api.Shape{Ptrs: 1})), of(1, api.OK))
	b.want("Serial", of(b.serial(1)), of(1, api.OK))
	b.want("Room", b.room(), 12)
}

// P1

func TestNew(t *testing.T) {
	for _, words := range []int{minInt, minInt + 1, -mostSpace, -leastWords, -1, 0, 1, 8, leastWords - 1, mostSpace + 1, 2 * mostSpace, 4 * mostSpace, 1<<32 + 16, 1<<62 + 16, maxInt - 1, maxInt} {
		if h, e := New(words); h != nil || e != api.ErrArg {
			t.Errorf("New(%d): %v, error %d", words, h, e)
		}
	}
	for _, words := range []int{leastWords, leastWords + 1, 100, mostSpace - 1, mostSpace} {
		h, e := New(words)
		if h == nil || e != api.OK {
			t.Fatalf("New(%d): error %d", words, e)
		}
		if h.Room() != words || h.Moving() || h.Here(1) || h.Here(1+words) {
			t.Errorf("New(%d): room %d, moving %v", words, h.Room(), h.Moving())
		}
	}
}

// TestBothSpaces fills each of both to its end: the first one from 1 on, the second one behind it.
func TestBothSpaces(t *testing.T) {
	for _, words := range []int{16, 17, 18, 19, 20, 100} {
		b := heap(t, words)
		for turn := range 5 {
			for k := range words / 4 {
				b.want("Room", b.room(), words-4*k)
				b.lays(has(0, 1), 1+turn%2*words+4*k)
			}
			b.want("Room", b.room(), words%4)
			b.want("Alloc", of(b.alloc(has(0, 0))), of(0, api.ErrMemory))
			b.collects()
		}
	}
}

func TestGreatestHeap(t *testing.T) {
	b := heap(t, mostSpace)
	b.seldom = true
	for turn := range 2 {
		b.want("Room", b.h.Room(), mostSpace)
		for k := range mostSpace / 4 {
			at, e := b.h.Alloc(has(1, 0))
			if at != 1+turn*mostSpace+4*k || e != api.OK {
				t.Fatalf("Alloc: %d, error %d", at, e)
			}
			// Each points to the one ahead of it.
			if k > 0 && b.h.SetPtr(at, 0, at-4) != api.OK {
				t.Fatalf("SetPtr(%d)", at)
			}
		}
		last := 1 + (turn+1)*mostSpace - 4
		b.want("Room", b.h.Room(), 0)
		b.want("Alloc", of(b.h.Alloc(has(0, 0))), of(0, api.ErrMemory))
		b.want("Here", of(b.h.Here(last), b.h.Here(last+4), b.h.Here(last-1), b.h.Here(2*mostSpace), b.h.Here(2*mostSpace+1)), of(true, false, false, false, false))
		nodes, _, _ := b.h.Canon([]int{last})
		b.want("Flip", b.h.Flip(), true)
		to := b.h.Moved(last)
		n := 0
		for b.h.Scan() {
			n++
		}
		b.want("Scans", n, mostSpace/4)
		b.want("Drop", of(b.h.Drop()), of([]int{}, true))
		again, seats, e := b.h.Canon([]int{to})
		b.want("Canon", of(len(again), seats, e), of(mostSpace/4, []int{0}, api.OK))
		b.want("Canon", again, nodes)
		b.want("Room", b.h.Room(), 0)
		// Emptied: the next turn begins in the other space.
		b.h.Flip()
		b.h.Drop()
		if turn == 0 {
			b.h.Flip()
			b.h.Drop()
		}
	}
}

func TestRoomOfWhatIsFull(t *testing.T) {
	b := heap(t, 40)
	b.want("Room", b.room(), 40)
	b.lays(has(1, 0), 1)
	b.want("Room", b.room(), 36)
	b.lays(has(2, 0), 5)
	b.want("Room", b.room(), 30)
	b.lays(has(8, 8), 11)
	b.want("Room", b.room(), 6)
	b.lays(has(1, 2), 35)
	b.want("Room", b.room(), 0)
	b.flip()
	b.want("Room ahead of Moved", b.room(), 0)
	for _, x := range []struct{ p, to int }{{5, 41}, {5, 41}, {41, 41}, {1, 47}, {0, 0}, {35, 51}} {
		b.want("Moved", b.moved(x.p), x.to)
		b.want("Room behind Moved", b.room(), 0)
	}
	b.want("Scans", b.scans(), 3)
	b.want("Room behind Scan", b.room(), 0)
	b.want("Drop", b.drops(), []int{})
	b.want("Room behind Drop", b.room(), 24)
	b.lays(has(8, 8), 57)
	b.want("Room", b.room(), 0)
}

// TestRoomWhileMoving has what is owed stand for what has not gone, as long as it is moving.
func TestRoomWhileMoving(t *testing.T) {
	b := heap(t, 40)
	b.lays(has(1, 0), 1)
	b.lays(has(8, 8), 5)
	b.want("Room", b.room(), 12)
	b.want("owed", b.h.owed, 0)
	b.flip()
	b.want("Room", b.room(), 12)
	b.want("owed", b.h.owed, 28)
	b.want("Moved", b.moved(1), 41)
	b.want("Room", b.room(), 12)
	b.want("owed", b.h.owed, 24)
	b.want("Moved", b.moved(1), 41)
	b.want("owed", b.h.owed, 24)
	b.lays(has(0, 0), 45)
	b.want("Room", b.room(), 8)
	b.want("owed", b.h.owed, 24)
	b.want("Scans", b.scans(), 2)
	b.want("Finals", b.finals(), []int{})
	b.want("Room", b.room(), 8)
	b.want("Drop", b.drops(), []int{})
	b.want("Room behind Drop", b.room(), 32)
	b.want("owed behind Drop", b.h.owed, 0)
	b.flip()
	b.want("Room", b.room(), 32)
	b.want("owed", b.h.owed, 8)
}

// P2

func TestAllocEachShape(t *testing.T) {
	for _, s := range shapes() {
		b := heap(t, 60)
		b.lays(has(0, 1), 1)
		at := b.lays(s, 5)
		size, takes := sizeOf(s)
		words := make([]uint64, size)
		for i := range words {
			words[i] = b.word(at + i)
		}
		want := make([]uint64, size)
		want[0], want[2] = headOf(s, false), 2
		b.want(fmt.Sprintf("the words of %+v", s), words, want)
		b.want("Room", b.room(), 56-takes)
		b.want("Shape", of(b.shape(at)), of(s, false, api.OK))
		b.want("Serial", of(b.serial(at)), of(2, api.OK))
		b.want("Second", of(b.second(at)), of(0, api.OK))
		for i := range s.Ptrs {
			b.want("Ptr", of(b.ptr(at, i)), of(0, api.OK))
		}
		for i := range s.Data {
			b.want("Num", of(b.num(at, i)), of(0, api.OK))
		}
		b.lays(s, 5+takes)
	}
}

// TestAllocWhereSomethingWas lays objects onto words that are not 0 any more.
func TestAllocWhereSomethingWas(t *testing.T) {
	b := heap(t, 24)
	for range 4 {
		from := b.h.spaces[b.h.inUse].Base
		for k := range 2 {
			at := b.lays(has(2, 3), from+8*k)
			for i := range 3 {
				b.want("Num", of(b.num(at, i)), of(0, api.OK))
				b.want("SetNum", b.setNum(at, i, -1), api.OK)
			}
			b.want("Ptr", of(b.ptr(at, 1)), of(0, api.OK))
			b.points(at, at, from)
			b.want("SetSecond", b.setSecond(at, all), api.OK)
			b.want("SetFreed", b.setFreed(at, true), api.OK)
		}
		b.collects()
	}
	b.lays(has(3, 3), 1)
	b.want("Shape", of(b.shape(1)), of(has(3, 3), false, api.OK))
	b.want("Second", of(b.second(1)), of(0, api.OK))
	b.want("Canon", of(b.canon(1)), of([]api.Node{{Serial: 9, Shape: has(3, 3), Ptrs: []int{-1, -1, -1}, Nums: []int{0, 0, 0}}}, []int{0}, api.OK))
}

// TestAllocOfNoRightShape is refused ahead of all else: where there is room, where there is none, and behind the last serial.
func TestAllocOfNoRightShape(t *testing.T) {
	b := heap(t, 16)
	for _, s := range wrongShapes() {
		b.want(fmt.Sprintf("Alloc(%+v)", s), of(b.alloc(s)), of(0, api.ErrArg))
	}
	for at := 1; at < 17; at += 4 {
		b.lays(has(0, 1), at)
	}
	for _, flip := range []bool{false, true} {
		if flip {
			b.flip()
		}
		for _, s := range wrongShapes() {
			b.want(fmt.Sprintf("Alloc(%+v)", s), of(b.alloc(s)), of(0, api.ErrArg))
		}
	}
	b.drops()
	b.h.serial, b.r.last = mostSerial, mostSerial
	for _, s := range wrongShapes() {
		b.want(fmt.Sprintf("Alloc(%+v)", s), of(b.alloc(s)), of(0, api.ErrArg))
	}
}

// TestAllocUpToTheEnd has just as many words left as an object takes, rounded, one more, one fewer, as many as it has, and none.
func TestAllocUpToTheEnd(t *testing.T) {
	for _, s := range shapes() {
		size, takes := sizeOf(s)
		for _, left := range []int{takes + 1, takes, takes - 1, size, size - 1, 1, 0} {
			b := heap(t, 16+left)
			for at := 1; at < 17; at += 4 {
				b.lays(has(1, 0), at)
			}
			b.want("Room", b.room(), left)
			want, room := of(0, api.ErrMemory), left
			if left >= takes {
				want, room = of(17, api.OK), left-takes
			}
			b.want(fmt.Sprintf("Alloc(%+v), when %d words are left", s, left), of(b.alloc(s)), want)
			b.want("Room", b.room(), room)
		}
	}
}

// TestAllocWhileMoving has what is owed leave room for it, or not.
func TestAllocWhileMoving(t *testing.T) {
	b := heap(t, 24)
	b.lays(has(1, 0), 1)
	b.lays(has(2, 0), 5)
	b.lays(has(0, 0), 11)
	b.flip()
	b.want("Room", b.room(), 10)
	b.want("Alloc of 12 words", of(b.alloc(has(4, 2))), of(0, api.ErrMemory))
	b.lays(has(3, 2), 25)
	b.want("Alloc of 4 words", of(b.alloc(has(0, 0))), of(0, api.ErrMemory))
	b.want("Moved", b.moved(5), 33)
	b.want("Alloc of 4 words", of(b.alloc(has(0, 0))), of(0, api.ErrMemory))
	b.want("Moved", b.moved(1), 39)
	b.want("Alloc of 4 words", of(b.alloc(has(0, 0))), of(0, api.ErrMemory))
	b.want("Scans", b.scans(), 3)
	b.want("Drop", b.drops(), []int{})
	b.want("Room", b.room(), 6)
	b.lays(has(3, 0), 43)
	b.want("Alloc of 4 words", of(b.alloc(has(0, 0))), of(0, api.ErrMemory))
}

// TestAllocWhileMovingUpToTheEnd has just as many words left beside what is owed as an object takes, one fewer, and none.
func TestAllocWhileMovingUpToTheEnd(t *testing.T) {
	for _, s := range shapes() {
		_, takes := sizeOf(s)
		for _, left := range []int{takes + 1, takes, takes - 1, 0} {
			b := heap(t, 16+left)
			for at := 1; at < 17; at += 4 {
				b.lays(has(1, 0), at)
			}
			b.flip()
			b.want("Moved", b.moved(9), 17+left)
			want := of(0, api.ErrMemory)
			if left >= takes {
				want = of(21+left, api.OK)
			}
			b.want(fmt.Sprintf("Alloc(%+v), when %d words are left", s, left), of(b.alloc(s)), want)
			for at := 1; at < 17; at += 4 {
				b.moved(at)
			}
			b.scans()
			b.drops()
		}
	}
}

func TestSerials(t *testing.T) {
	b := heap(t, 24)
	b.lays(has(1, 0), 1)
	b.lays(weak, 5)
	b.want("Alloc", of(b.alloc(has(9, 0))), of(0, api.ErrArg))
	b.lays(final(0, 0), 9)
	b.want("Alloc", of(b.alloc(has(8, 8))), of(0, api.ErrMemory))
	b.lays(has(0, 1), 13)
	for k, at := range []int{1, 5, 9, 13} {
		b.want("Serial", of(b.serial(at)), of(k+1, api.OK))
	}
	b.flip()
	b.lays(has(0, 0), 25)
	b.want("Serial", of(b.serial(25)), of(5, api.OK))
	b.want("Moved", b.moved(9), 29)
	b.want("Serial", of(b.serial(29)), of(3, api.OK))
	b.want("Alloc", of(b.alloc(has(2, 0))), of(0, api.ErrMemory))
	b.scans()
	b.drops()
	b.lays(weak, 33)
	b.want("Serial", of(b.serial(33)), of(6, api.OK))
	b.collects()
	b.lays(has(0, 0), 1)
	b.want("Serial", of(b.serial(1)), of(7, api.OK))
}

// TestTheLastSerial is reached behind many objects, which aren't laid here.
func TestTheLastSerial(t *testing.T) {
	b := heap(t, 40)
	b.h.serial, b.r.last = mostSerial-2, mostSerial-2
	b.lays(has(0, 0), 1)
	b.want("Serial", of(b.serial(1)), of(mostSerial-1, api.OK))
	b.lays(final(1, 0), 5)
	b.want("Serial", of(b.serial(5)), of(mostSerial, api.OK))
	for range 3 {
		b.want("Alloc", of(b.alloc(has(0, 0))), of(0, api.ErrMemory))
		b.want("Alloc", of(b.alloc(weak)), of(0, api.ErrMemory))
		b.want("Finals", b.finals(), []int{})
	}
	b.flip()
	b.want("Alloc", of(b.alloc(has(0, 0))), of(0, api.ErrMemory))
	b.want("Moved", b.moved(5), 41)
	b.scans()
	b.drops()
	b.want("Serial", of(b.serial(41)), of(mostSerial, api.OK))
	b.want("Alloc", of(b.alloc(has(0, 0))), of(0, api.ErrMemory))
}

// heres holds Here of each place of a heap, and of some that it has not, against the places where there is to be one.
func heres(b *both, places ...int) {
	b.t.Helper()
	for _, at := range []int{minInt, minInt + 1, -1 << 32, 1<<32 + 1, maxInt - 1, maxInt} {
		b.want(fmt.Sprintf("Here(%d)", at), b.h.Here(at), false)
	}
	for at := -5; at < len(b.r.l)+5; at++ {
		b.want(fmt.Sprintf("Here(%d)", at), b.h.Here(at), slices.Contains(places, at))
	}
}

func TestHere(t *testing.T) {
	b := heap(t, 30)
	heres(b)
	b.lays(has(2, 2), 1)
	heres(b, 1)
	b.lays(weak, 9)
	b.lays(final(0, 1), 13)
	heres(b, 1, 9, 13)
	// Words within objects that look like the first ones of others, or of ones that have gone.
	b.want("SetNum", of(b.setNum(1, 0, -1), b.setNum(1, 1, -18), b.setNum(13, 0, 63)), of(api.OK, api.OK, api.OK))
	b.want("SetSecond", of(b.setSecond(1, 1), b.setSecond(9, goneTo(1)), b.setSecond(13, 3)), of(api.OK, api.OK, api.OK))
	b.points(1, 9, 13)
	heres(b, 1, 9, 13)
	b.flip()
	heres(b)
	b.want("Moved", b.moved(9), 31)
	heres(b, 31)
	b.want("Moved", b.moved(1), 35)
	heres(b, 31, 35)
	b.lays(has(0, 0), 43)
	heres(b, 31, 35, 43)
	b.scans()
	heres(b, 31, 35, 43, 47)
	b.drops()
	heres(b, 31, 35, 43, 47)
	b.collects()
	heres(b)
	b.lays(has(0, 0), 1)
	b.lays(has(0, 0), 5)
	heres(b, 1, 5)
}

// TestHereUpToTheLastWord has the last word of the arena be an object's, or not.
func TestHereUpToTheLastWord(t *testing.T) {
	b := heap(t, 16)
	b.collects()
	for at := 17; at < 33; at += 4 {
		b.lays(has(0, 1), at)
	}
	b.want("SetNum", b.setNum(29, 0, -1), api.OK)
	heres(b, 17, 21, 25, 29)
}

// P3

// fieldsOf are three objects that lie one behind the other: of 2 pointers and 2 numbers at 1, weak at 9, of 1 pointer and 1 number and to be finalized at 13.
func fieldsOf(t *testing.T) *both {
	t.Helper()
	b := heap(t, 30)
	b.lays(has(2, 2), 1)
	b.lays(weak, 9)
	b.lays(final(1, 1), 13)
	return b
}

func TestWhatIsAheadOfFields(t *testing.T) {
	b := fieldsOf(t)
	for k, x := range []struct {
		at int
		s  api.Shape
	}{{1, has(2, 2)}, {9, weak}, {13, final(1, 1)}} {
		b.want("Serial", of(b.serial(x.at)), of(k+1, api.OK))
		for _, freed := range []bool{false, true, true, false, true} {
			b.want("SetFreed", b.setFreed(x.at, freed), api.OK)
			b.want("Shape", of(b.shape(x.at)), of(x.s, freed, api.OK))
		}
		for _, w := range []uint64{0, 1, 14, 15, goneTo(9), 1 << 63, all} {
			b.want("SetSecond", b.setSecond(x.at, w), api.OK)
			b.want("Second", of(b.second(x.at)), of(w, api.OK))
		}
		b.want("Serial", of(b.serial(x.at)), of(k+1, api.OK))
	}
	heres(b, 1, 9, 13)
}

func TestFields(t *testing.T) {
	b := fieldsOf(t)
	for _, n := range []int{0, 1, -1, 7, maxInt, minInt, 1 << 40, -1000000} {
		for _, x := range []struct{ at, i int }{{1, 0}, {1, 1}, {13, 0}} {
			b.want("SetNum", b.setNum(x.at, x.i, n), api.OK)
			b.want("Num", of(b.num(x.at, x.i)), of(n, api.OK))
		}
	}
	for _, p := range []int{1, 9, 13, 0, 13, 0} {
		for _, x := range []struct{ at, i int }{{1, 0}, {1, 1}, {9, 0}, {13, 0}} {
			b.want("SetPtr", b.setPtr(x.at, x.i, p), api.OK)
			b.want("Ptr", of(b.ptr(x.at, x.i)), of(p, api.OK))
		}
	}
	// A field, and nothing beside it.
	b.points(1, 9, 13)
	b.want("SetNum", b.setNum(1, 0, 5), api.OK)
	b.want("the fields", of(b.word(4), b.word(5), b.word(6), b.word(7), b.word(8)), of(9, 13, 10, zig(-1000000), 0))
	b.want("Ptr", of(b.ptr(1, 0)), of(9, api.OK))
	b.want("Ptr", of(b.ptr(1, 1)), of(13, api.OK))
}

// TestFreedObjectsHaveTheirFields has all calls on one that is freed.
func TestFreedObjectsHaveTheirFields(t *testing.T) {
	b := fieldsOf(t)
	for _, at := range []int{1, 9, 13} {
		b.want("SetFreed", b.setFreed(at, true), api.OK)
		b.want("SetPtr", b.setPtr(at, 0, at), api.OK)
		b.want("Ptr", of(b.ptr(at, 0)), of(at, api.OK))
	}
	b.want("SetNum", b.setNum(13, 0, -7), api.OK)
	b.want("Num", of(b.num(13, 0)), of(-7, api.OK))
	b.flip()
	b.want("Moved", b.moved(13), 31)
	b.want("Shape", of(b.shape(31)), of(final(1, 1), true, api.OK))
	b.want("Num", of(b.num(31, 0)), of(-7, api.OK))
}

// nothing holds each call on a place where nothing is against ErrObject, whatever else is asked.
func nothing(b *both, at int, ptrs ...int) {
	b.t.Helper()
	is := fmt.Sprintf("of %d", at)
	b.want("Shape "+is, of(b.shape(at)), of(api.Shape{}, false, api.ErrObject))
	b.want("Serial "+is, of(b.serial(at)), of(0, api.ErrObject))
	b.want("Second "+is, of(b.second(at)), of(0, api.ErrObject))
	b.want("SetFreed "+is, of(b.setFreed(at, true), b.setFreed(at, false)), of(api.ErrObject, api.ErrObject))
	b.want("SetSecond "+is, of(b.setSecond(at, 0), b.setSecond(at, all)), of(api.ErrObject, api.ErrObject))
	for _, i := range []int{minInt, -1, 0, 1, 8, maxInt} {
		b.want("Ptr "+is, of(b.ptr(at, i)), of(0, api.ErrObject))
		b.want("Num "+is, of(b.num(at, i)), of(0, api.ErrObject))
		b.want("SetNum "+is, b.setNum(at, i, 7), api.ErrObject)
		for _, p := range ptrs {
			b.want("SetPtr "+is, b.setPtr(at, i, p), api.ErrObject)
		}
	}
}

// TestWhereNothingIs asks of places without an object in an empty heap, in one with objects, in one that is moving, and behind that.
func TestWhereNothingIs(t *testing.T) {
	far := []int{minInt, -1 << 40, -2, -1, 0, 61, 62, 1 << 17, 1 << 40, maxInt}
	ptrs := []int{minInt, -1, 0, 1, 2, 9, 30, 31, 35, 61, 1 << 17, 1<<17 + 1, maxInt}
	b := heap(t, 30)
	for _, at := range append([]int{1, 30, 31, 60}, far...) {
		nothing(b, at, ptrs...)
	}
	b = fieldsOf(t)
	b.want("SetNum", b.setNum(1, 0, -1), api.OK)
	b.want("SetSecond", b.setSecond(1, 3), api.OK)
	for _, at := range append([]int{2, 3, 6, 8, 10, 12, 14, 18, 19, 30, 31, 60}, far...) {
		nothing(b, at, ptrs...)
	}
	b.flip()
	b.want("Moved", b.moved(9), 31)
	// What is there and has not gone, what has gone, what is within both, and behind what is here.
	for _, at := range append([]int{1, 13, 9, 2, 10, 32, 35, 60}, far...) {
		nothing(b, at, ptrs...)
	}
	b.scans()
	b.drops()
	for _, at := range append([]int{1, 13, 9, 2, 10, 32, 35, 60}, far...) {
		nothing(b, at, ptrs...)
	}
}

func TestNoSuchField(t *testing.T) {
	b := fieldsOf(t)
	b.lays(has(0, 0), 19)
	ask := func(at, ptrs, nums int, p int) {
		t.Helper()
		for _, i := range []int{minInt, -1 << 32, -1, ptrs, ptrs + 1, 8, 9, 1 << 32, maxInt} {
			b.want(fmt.Sprintf("Ptr(%d, %d)", at, i), of(b.ptr(at, i)), of(0, api.ErrField))
			b.want(fmt.Sprintf("SetPtr(%d, %d)", at, i), of(b.setPtr(at, i, 0), b.setPtr(at, i, p)), of(api.ErrField, api.ErrField))
		}
		for _, i := range []int{minInt, -1 << 32, -1, nums, nums + 1, 8, 9, 1 << 32, maxInt} {
			b.want(fmt.Sprintf("Num(%d, %d)", at, i), of(b.num(at, i)), of(0, api.ErrField))
			b.want(fmt.Sprintf("SetNum(%d, %d)", at, i), of(b.setNum(at, i, 0), b.setNum(at, i, minInt)), of(api.ErrField, api.ErrField))
		}
	}
	for _, x := range []struct{ at, ptrs, nums int }{{1, 2, 2}, {9, 1, 0}, {13, 1, 1}, {19, 0, 0}} {
		ask(x.at, x.ptrs, x.nums, 13)
	}
	b.flip()
	b.want("Moved", b.moved(13), 31)
	ask(31, 1, 1, 31)
}

// TestFieldsOfEachShape has the first one, the last one, and those that are just none.
func TestFieldsOfEachShape(t *testing.T) {
	for _, s := range shapes() {
		b := heap(t, 30)
		b.lays(s, 1)
		b.want("no such pointer", of(b.ptr(1, s.Ptrs)), of(0, api.ErrField))
		b.want("no such number", of(b.num(1, s.Data)), of(0, api.ErrField))
		b.want("no such field", of(b.setPtr(1, s.Ptrs, 1), b.setPtr(1, -1, 1), b.setNum(1, s.Data, 7), b.setNum(1, -1, 7)), of(api.ErrField, api.ErrField, api.ErrField, api.ErrField))
		for i := range s.Ptrs {
			b.want("SetPtr", b.setPtr(1, i, 1), api.OK)
			b.want("Ptr", of(b.ptr(1, i)), of(1, api.OK))
		}
		for i := range s.Data {
			b.want("SetNum", b.setNum(1, i, -100-i), api.OK)
			b.want("Num", of(b.num(1, i)), of(-100-i, api.OK))
		}
	}
}

// TestWhichErrorOfSeveral has ErrObject come ahead of ErrField, also where it is the pointer that is nothing.
func TestWhichErrorOfSeveral(t *testing.T) {
	b := fieldsOf(t)
	for _, at := range []int{1, 9, 13} {
		for _, i := range []int{minInt, -1, 0, 2, 8, maxInt} {
			for _, p := range []int{minInt, -1, 2, 10, 19, 30, 31, 60, 61, 1 << 17, 1<<17 + 1, maxInt} {
				b.want(fmt.Sprintf("SetPtr(%d, %d, %d)", at, i, p), b.setPtr(at, i, p), api.ErrObject)
			}
		}
		b.want("SetPtr", of(b.setPtr(at, 2, 0), b.setPtr(at, -1, at)), of(api.ErrField, api.ErrField))
	}
	b.flip()
	b.want("Moved", b.moved(1), 31)
	// What is there is nothing that a pointer may be made, gone or not; nor is it moved by that.
	for _, i := range []int{0, 1, 2, -1} {
		b.want("SetPtr", of(b.setPtr(31, i, 1), b.setPtr(31, i, 9), b.setPtr(31, i, 13)), of(api.ErrObject, api.ErrObject, api.ErrObject))
	}
	b.want("SetPtr", of(b.setPtr(31, 2, 31), b.setPtr(31, 1, 31)), of(api.ErrField, api.OK))
	b.want("Ptr", of(b.ptr(1, 9)), of(0, api.ErrObject))
	b.want("Num", of(b.num(1, 9)), of(0, api.ErrObject))
}

func TestPtrOfWhatIsThere(t *testing.T) {
	b := heap(t, 60)
	b.lays(has(4, 0), 1)
	b.lays(has(0, 1), 9)
	b.lays(has(0, 1), 13)
	b.lays(weak, 17)
	b.points(1, 9, 13, 1, 0)
	b.points(17, 9)
	b.flip()
	b.want("Moved", of(b.moved(1), b.moved(17)), of(61, 69))
	b.want("the pointers", of(b.word(64), b.word(65), b.word(66), b.word(67), b.word(72)), of(9, 13, 1, 0, 9))
	b.want("Ptr of what is there", of(b.ptr(61, 0)), of(73, api.OK))
	b.want("the pointers", of(b.word(64), b.word(65), b.word(66), b.word(67), b.word(72)), of(73, 13, 1, 0, 9))
	b.want("Ptr of what is here", of(b.ptr(61, 0)), of(73, api.OK))
	b.want("Ptr of what has gone, of a weak one", of(b.ptr(69, 0)), of(73, api.OK))
	b.want("Ptr of itself, which has gone", of(b.ptr(61, 2)), of(61, api.OK))
	b.want("Ptr of 0", of(b.ptr(61, 3)), of(0, api.OK))
	b.want("the pointers", of(b.word(64), b.word(65), b.word(66), b.word(67), b.word(72)), of(73, 13, 61, 0, 73))
	b.want("Ptr of what is there", of(b.ptr(61, 1)), of(77, api.OK))
	b.want("the pointers", of(b.word(64), b.word(65), b.word(66), b.word(67), b.word(72)), of(73, 77, 61, 0, 73))
	b.want("Room", b.room(), 40)
	b.want("owed", b.h.owed, 0)
	b.want("Scans", b.scans(), 4)
	b.want("Drop", b.drops(), []int{})
	b.want("Ptr", of(b.ptr(61, 1)), of(77, api.OK))
}

// TestPtrOfAWeakOne moves what it leads to, which so isn't let go of.
func TestPtrOfAWeakOne(t *testing.T) {
	for _, asked := range []bool{false, true} {
		b := heap(t, 40)
		b.lays(has(0, 1), 1)
		b.lays(weak, 5)
		b.points(5, 1)
		b.want("SetNum", b.setNum(1, 0, 8), api.OK)
		b.flip()
		b.want("Moved", b.moved(5), 41)
		if asked {
			b.want("Ptr", of(b.ptr(41, 0)), of(45, api.OK))
			b.want("the pointer", b.word(44), 45)
		}
		b.scans()
		if asked {
			b.want("Drop", b.drops(), []int{})
			b.want("Ptr", of(b.ptr(41, 0)), of(45, api.OK))
			b.want("Num", of(b.num(45, 0)), of(8, api.OK))
		} else {
			b.want("Drop", b.drops(), []int{2})
			b.want("Ptr", of(b.ptr(41, 0)), of(0, api.OK))
		}
	}
}

// TestPtrTurnsJustItself has two objects that lead to the same: the other one's pointer stays, till it is asked for.
func TestPtrTurnsJustItself(t *testing.T) {
	b := heap(t, 40)
	b.lays(has(2, 0), 1)
	b.lays(has(1, 0), 7)
	b.lays(has(1, 0), 11)
	b.points(1, 11, 11)
	b.points(7, 11)
	b.flip()
	b.want("Moved", of(b.moved(7), b.moved(1)), of(41, 45))
	b.want("Ptr", of(b.ptr(45, 1)), of(51, api.OK))
	b.want("the pointers", of(b.word(44), b.word(48), b.word(49)), of(11, 11, 51))
	b.want("Ptr", of(b.ptr(41, 0)), of(51, api.OK))
	b.want("the pointers", of(b.word(44), b.word(48), b.word(49)), of(51, 11, 51))
	b.want("no such field", of(b.ptr(45, 2)), of(0, api.ErrField))
	b.want("the pointers", of(b.word(44), b.word(48), b.word(49)), of(51, 11, 51))
}

func TestSetPtr(t *testing.T) {
	b := heap(t, 40)
	b.lays(has(1, 1), 1)
	b.lays(weak, 7)
	b.lays(has(1, 0), 11)
	// Here, itself, nothing.
	b.points(1, 11)
	b.points(7, 7)
	b.points(11, 0)
	for _, p := range []int{2, 5, 8, 12, 15, 41, 81, -1, minInt, maxInt} {
		b.want(fmt.Sprintf("SetPtr to %d", p), of(b.setPtr(1, 0, p), b.setPtr(7, 0, p)), of(api.ErrObject, api.ErrObject))
	}
	b.flip()
	b.want("SetPtr at what is there", of(b.setPtr(1, 0, 0), b.setPtr(7, 0, 0)), of(api.ErrObject, api.ErrObject))
	b.want("Moved", b.moved(1), 41)
	b.want("SetPtr at what has gone", b.setPtr(1, 0, 41), api.ErrObject)
	b.want("SetPtr to what has gone", b.setPtr(41, 0, 1), api.ErrObject)
	b.want("SetPtr to what has not", b.setPtr(41, 0, 11), api.ErrObject)
	b.want("the pointer", b.word(44), 11)
	b.want("SetPtr to what is here", b.setPtr(41, 0, 41), api.OK)
	b.want("the pointer", b.word(44), 41)
	b.want("SetPtr to 0", b.setPtr(41, 0, 0), api.OK)
	b.want("the pointer", b.word(44), 0)
	// 11 is pointed to no more, so that Scan doesn't come to it.
	b.want("Scans", b.scans(), 1)
	b.want("Drop", b.drops(), []int{})
	b.want("Room", b.room(), 34)
}

// P4

func TestFlip(t *testing.T) {
	b := heap(t, 30)
	for range 3 {
		b.want("Moving", b.h.Moving(), false)
		b.want("Flip", b.flip(), true)
		b.want("Moving", b.h.Moving(), true)
		b.want("Flip twice", of(b.flip(), b.flip()), of(false, false))
		b.want("Moving", b.h.Moving(), true)
		b.want("Drop", of(b.drop()), of([]int{}, true))
	}
	b.lays(has(1, 0), 31)
	b.lays(has(1, 0), 35)
	b.want("Flip", b.flip(), true)
	b.want("Moved", b.moved(35), 1)
	b.want("Scan", b.scan(), true)
	b.want("Flip twice", b.flip(), false)
	// Nothing has begun anew by that.
	b.want("Scan", b.scan(), false)
	b.want("owed", b.h.owed, 4)
	b.want("Moved", of(b.moved(35), b.moved(31)), of(1, 5))
	b.want("Moving", b.h.Moving(), true)
	b.scans()
	b.want("Flip", b.flip(), false)
	b.drops()
	b.want("Moving", b.h.Moving(), false)
	b.want("Flip", b.flip(), true)
	b.want("Here", of(b.h.Here(1), b.h.Here(5)), of(false, false))
}

// stays holds Moved of places against them themselves.
func stays(b *both, places ...int) {
	b.t.Helper()
	for _, p := range places {
		b.want(fmt.Sprintf("Moved(%d)", p), b.moved(p), p)
	}
}

func TestMoved(t *testing.T) {
	b := heap(t, 40)
	far := []int{minInt, -1 << 32, -1, 0, 80, 81, 82, 1 << 32, 1<<32 + 1, maxInt}
	stays(b, 1, 41)
	b.lays(has(1, 1), 1)
	b.lays(final(0, 2), 7)
	b.points(1, 7)
	b.want("SetNum", of(b.setNum(7, 0, -5), b.setNum(7, 1, 9), b.setNum(1, 0, -1)), of(api.OK, api.OK, api.OK))
	b.want("SetSecond", of(b.setSecond(7, 15), b.setSecond(1, goneTo(7))), of(api.OK, api.OK))
	b.want("SetFreed", b.setFreed(7, true), api.OK)
	// Not moving.
	stays(b, far...)
	stays(b, 1, 7, 2, 13, 41)
	b.flip()
	// No objects' places, and words within objects that look like some.
	stays(b, far...)
	stays(b, 2, 3, 4, 5, 6, 8, 12, 13, 40, 41, 47)
	b.want("owed", b.h.owed, 12)
	b.want("Moved, once", b.moved(7), 41)
	b.want("owed", b.h.owed, 6)
	b.want("Moved, twice", b.moved(7), 41)
	b.want("owed", b.h.owed, 6)
	stays(b, far...)
	stays(b, 41, 42, 47, 8, 2)
	b.want("what has gone", of(b.word(7), b.word(8)), of(goneTo(41), 15))
	b.want("what is here", of(b.word(41), b.word(42), b.word(43), b.word(44), b.word(45)), of(headOf(final(0, 2), true), 15, 2, 9, 18))
	b.want("Moved", b.moved(1), 47)
	b.want("owed", b.h.owed, 0)
	b.want("what is here", of(b.word(47), b.word(48), b.word(49), b.word(50), b.word(51)), of(headOf(has(1, 1), false), goneTo(7), 1, 7, 1))
	stays(b, 41, 47, 53)
	b.want("Moved", of(b.moved(1), b.moved(7)), of(47, 41))
	b.scans()
	b.drops()
	stays(b, far...)
	stays(b, 1, 7, 41, 47)
}

// TestMovedOfEachShape lays it between others, and all of its fields go with it.
func TestMovedOfEachShape(t *testing.T) {
	for _, s := range shapes() {
		b := heap(t, 60)
		b.lays(has(1, 0), 1)
		at := b.lays(s, 5)
		_, takes := sizeOf(s)
		next := b.lays(has(0, 1), 5+takes)
		for i := range s.Ptrs {
			b.want("SetPtr", b.setPtr(at, i, []int{1, at, next, 0}[i%4]), api.OK)
		}
		for i := range s.Data {
			b.want("SetNum", b.setNum(at, i, -i-1), api.OK)
		}
		b.want("SetSecond", b.setSecond(at, 2*77), api.OK)
		b.want("SetFreed", b.setFreed(at, true), api.OK)
		b.flip()
		b.want("owed", b.h.owed, 8+takes)
		b.want("Moved", b.moved(at), 61)
		b.want("owed", b.h.owed, 8)
		b.want("Moved", b.moved(next), 61+takes)
		b.want("Room", b.room(), 52-takes)
		b.want("Shape", of(b.shape(61)), of(s, true, api.OK))
		b.want("Serial", of(b.serial(61)), of(2, api.OK))
		b.want("Second", of(b.second(61)), of(154, api.OK))
		for i := range s.Data {
			b.want("Num", of(b.num(61, i)), of(-i-1, api.OK))
		}
		for i := range s.Ptrs {
			b.want("Ptr", of(b.ptr(61, i)), of([]int{61 + takes + 4, 61, 61 + takes, 0}[i%4], api.OK))
		}
	}
}

// P5

func TestScanOfNothing(t *testing.T) {
	b := heap(t, 40)
	b.want("Scan of an empty heap", b.scan(), false)
	b.lays(has(1, 0), 1)
	b.points(1, 1)
	b.want("Scan, not moving", of(b.scan(), b.scan()), of(false, false))
	b.flip()
	b.want("Scan, when nothing was moved", of(b.scan(), b.scan()), of(false, false))
	b.want("Moved", b.moved(1), 41)
	b.want("Scan", of(b.scan(), b.scan()), of(true, false))
	b.drops()
	b.want("Scan behind Drop", of(b.scan(), b.scan()), of(false, false))
}

func TestScanGoesObjectByObject(t *testing.T) {
	b := heap(t, 80)
	for at := 1; at < 17; at += 4 {
		b.lays(has(1, 0), at)
	}
	b.points(1, 5)
	b.points(5, 9)
	b.points(9, 1)
	b.points(13, 1)
	b.flip()
	b.want("Moved", b.moved(1), 81)
	b.want("the pointer", b.word(84), 5)
	b.want("Scan of the first one", b.scan(), true)
	b.want("the pointers", of(b.word(84), b.word(88)), of(85, 9))
	b.want("owed", b.h.owed, 8)
	heres(b, 81, 85)
	b.want("Scan of the second one", b.scan(), true)
	b.want("the pointers", of(b.word(84), b.word(88), b.word(92)), of(85, 89, 1))
	heres(b, 81, 85, 89)
	b.want("Scan of the third one", b.scan(), true)
	b.want("the pointers", of(b.word(84), b.word(88), b.word(92)), of(85, 89, 81))
	b.want("Scan", of(b.scan(), b.scan()), of(false, false))
	b.want("Drop", b.drops(), []int{})
	heres(b, 81, 85, 89)
	b.want("Room", b.room(), 68)
}

// TestScanInTheOrderOfPointers has them lead backwards, twice to one, to nothing and to the object itself.
func TestScanInTheOrderOfPointers(t *testing.T) {
	b := heap(t, 80)
	b.lays(has(8, 1), 1)
	for at := 13; at < 29; at += 4 {
		b.lays(has(0, 1), at)
	}
	b.points(1, 25, 13, 0, 25, 1, 21, 13, 0)
	b.flip()
	b.want("Moved", b.moved(1), 81)
	b.want("Scan", b.scan(), true)
	for i, p := range []int{93, 97, 0, 93, 81, 101, 97, 0} {
		b.want(fmt.Sprintf("the pointer %d", i), b.word(84+i), p)
	}
	for _, x := range []struct{ at, serial int }{{81, 1}, {93, 5}, {97, 2}, {101, 4}} {
		b.want("Serial", of(b.serial(x.at)), of(x.serial, api.OK))
	}
	heres(b, 81, 93, 97, 101)
	b.want("Scans", b.scans(), 3)
	heres(b, 81, 93, 97, 101)
}

// TestScanTurnsEachPointer has one pointer of so many lead elsewhere, in its turn.
func TestScanTurnsEachPointer(t *testing.T) {
	for n := 1; n <= mostField; n++ {
		for i := range n {
			b := heap(t, 40)
			at := b.lays(has(n, 2), 1)
			_, takes := sizeOf(has(n, 2))
			to := b.lays(has(0, 0), 1+takes)
			b.want("SetPtr", b.setPtr(at, i, to), api.OK)
			b.want("SetNum", of(b.setNum(at, 0, to), b.setNum(at, 1, -1)), of(api.OK, api.OK))
			b.flip()
			b.want("Moved", b.moved(at), 41)
			b.want("Scans", b.scans(), 2)
			for k := range n {
				want := 0
				if k == i {
					want = 41 + takes
				}
				b.want(fmt.Sprintf("the pointer %d of %d", k, n), b.word(44+k), want)
			}
			b.want("Num", of(b.num(41, 0)), of(to, api.OK))
		}
	}
}

// TestScanGoesBehindWhatWasTaken has objects of all sizes one behind the other.
func TestScanGoesBehindWhatWasTaken(t *testing.T) {
	b := heap(t, 220)
	at, places := 1, []int{}
	for n := range 17 {
		s := has(min(n, 8), max(0, n-8))
		places = append(places, b.lays(s, at))
		_, takes := sizeOf(s)
		at += takes
	}
	b.flip()
	for k, p := range places {
		b.want("Moved", b.moved(p), 220+places[k])
	}
	b.want("Scans", b.scans(), 17)
	b.drops()
}

// TestScanOfOneAnother has two that point to one another and to themselves, and one that came ahead of them.
func TestScanOfOneAnother(t *testing.T) {
	b := heap(t, 40)
	b.lays(has(2, 0), 1)
	b.lays(has(2, 0), 7)
	b.lays(has(2, 0), 13)
	b.points(1, 1, 7)
	b.points(7, 1, 7)
	b.points(13, 7, 1)
	b.flip()
	b.want("Moved", of(b.moved(7), b.moved(13)), of(41, 47))
	b.want("Scan", b.scan(), true)
	b.want("the pointers", of(b.word(44), b.word(45)), of(53, 41))
	b.want("Scan", b.scan(), true)
	b.want("the pointers", of(b.word(50), b.word(51)), of(41, 53))
	b.want("Scan", b.scan(), true)
	b.want("the pointers", of(b.word(56), b.word(57)), of(53, 41))
	b.want("Scan", b.scan(), false)
}

// TestScanOfWeakOnes leaves what they lead to, gone or not, and goes on behind them.
func TestScanOfWeakOnes(t *testing.T) {
	b := heap(t, 40)
	b.lays(weak, 1)
	b.lays(has(1, 0), 5)
	b.lays(has(1, 0), 9)
	b.lays(weak, 13)
	b.points(1, 9)
	b.points(13, 5)
	b.points(5, 5)
	b.flip()
	b.want("Moved", of(b.moved(1), b.moved(13), b.moved(5)), of(41, 45, 49))
	b.want("Scan", of(b.scan(), b.scan()), of(true, true))
	b.want("the pointers", of(b.word(44), b.word(48), b.word(52)), of(9, 5, 5))
	b.want("Scan", of(b.scan(), b.scan()), of(true, false))
	b.want("the pointers", of(b.word(44), b.word(48), b.word(52)), of(9, 5, 49))
	b.want("owed", b.h.owed, 4)
	b.want("Drop", b.drops(), []int{1})
	b.want("the pointers", of(b.word(44), b.word(48), b.word(52)), of(0, 49, 49))
}

// TestScanOfWhatIsLaidWhileMoving has objects laid when all is scanned, and when there are some to be scanned still.
func TestScanOfWhatIsLaidWhileMoving(t *testing.T) {
	b := heap(t, 60)
	b.lays(has(1, 0), 1)
	b.lays(has(1, 0), 5)
	b.points(1, 5)
	b.flip()
	b.lays(has(2, 0), 61)
	b.want("Scan", of(b.scan(), b.scan()), of(true, false))
	// Behind the scan place: nothing that is there can become its pointer.
	b.want("SetPtr", of(b.setPtr(61, 0, 1), b.setPtr(61, 0, 61)), of(api.ErrObject, api.OK))
	b.want("Moved", b.moved(1), 67)
	b.want("SetPtr", b.setPtr(61, 1, 67), api.OK)
	b.lays(weak, 71)
	b.lays(has(0, 1), 75)
	b.want("SetPtr", b.setPtr(71, 0, 67), api.OK)
	b.want("Scan", b.scan(), true)
	b.want("the pointer", b.word(70), 79)
	b.want("Scan", of(b.scan(), b.scan(), b.scan(), b.scan()), of(true, true, true, false))
	b.lays(final(1, 0), 83)
	b.want("Drop ahead of the end of Scan", of(b.drop()), of([]int{}, false))
	b.want("Scan", of(b.scan(), b.scan()), of(true, false))
	b.want("Drop", of(b.drop()), of([]int{}, true))
	heres(b, 61, 67, 71, 75, 79, 83)
}

// P6

func TestFinalsWhenNotMoving(t *testing.T) {
	b := heap(t, 40)
	b.want("Finals of an empty heap", b.finals(), []int{})
	b.lays(final(0, 0), 1)
	b.lays(final(0, 0), 5)
	b.want("Finals", of(b.finals(), b.finals()), of([]int{}, []int{}))
	b.flip()
	b.want("Finals, moving", b.finals(), []int{41, 45})
	b.scans()
	b.drops()
	b.want("Finals behind Drop", b.finals(), []int{})
	heres(b, 41, 45)
}

// TestFinals has several, of which some have gone, and one is laid while it is moving.
func TestFinals(t *testing.T) {
	b := heap(t, 60)
	b.lays(final(1, 0), 1)
	b.lays(has(1, 0), 5)
	b.lays(final(1, 0), 9)
	b.lays(final(1, 0), 13)
	b.lays(final(0, 2), 17)
	b.points(5, 13)
	b.points(17-4, 1)
	b.points(13, 0)
	b.flip()
	b.want("Moved", b.moved(5), 61)
	b.lays(final(1, 0), 65)
	b.want("Scans", b.scans(), 3)
	heres(b, 61, 65, 69)
	b.want("Finals", b.finals(), []int{73, 77, 81})
	for k, x := range []struct{ at, serial int }{{73, 1}, {77, 3}, {81, 5}} {
		b.want(fmt.Sprintf("Serial of final %d", k), of(b.serial(x.at)), of(x.serial, api.OK))
	}
	b.want("Finals again", b.finals(), []int{})
	b.want("owed", b.h.owed, 0)
	b.want("Scans", b.scans(), 3)
	b.drops()
	// Those that are on the list still, in its order: the fourth and the sixth; no other one.
	b.flip()
	b.want("Moved", of(b.moved(73), b.moved(77)), of(1, 5))
	b.want("Finals", b.finals(), []int{9, 13})
	b.want("Serial", of(b.serial(9)), of(4, api.OK))
	b.want("Serial", of(b.serial(13)), of(6, api.OK))
	b.scans()
	b.drops()
	b.flip()
	b.want("Finals", b.finals(), []int{})
	b.drops()
	heres(b)
}

// TestFinalsWhereverScanIs has it ahead of Scan, between and behind it: what Scan has not come to yet is told, too.
func TestFinalsWhereverScanIs(t *testing.T) {
	for scans, want := range [][]int{{71, 75, 81}, {75, 81}, {81}, {81}, {81}} {
		b := heap(t, 60)
		b.lays(has(2, 0), 1)
		b.lays(final(1, 0), 7)
		b.lays(final(1, 1), 11)
		b.lays(final(0, 0), 17)
		b.points(1, 7, 0)
		b.points(7, 11)
		b.flip()
		b.want("Moved", b.moved(1), 61)
		b.want("Alloc", of(b.alloc(final(0, 1))), of(67, api.OK))
		for k := range scans {
			b.scan()
			if k == 0 {
				// The object at 67 lies between the first one and those that it leads to.
				b.scan()
			}
		}
		b.want(fmt.Sprintf("Finals behind %d", scans), b.finals(), want)
		b.want("Finals again", b.finals(), []int{})
		b.scans()
		b.drops()
		heres(b, 61, 67, 71, 75, 81)
		// All others have been told, or are told now.
		b.flip()
		l := b.finals()
		b.want("Finals of the next collection", len(l), 4-len(want))
	}
}

// TestFinalsThatLeadToOneAnother are all told, those too that another one leads to.
func TestFinalsThatLeadToOneAnother(t *testing.T) {
	b := heap(t, 60)
	b.lays(final(2, 0), 1)
	b.lays(final(2, 0), 7)
	b.lays(has(1, 0), 13)
	b.lays(final(1, 0), 17)
	b.points(1, 7, 13)
	b.points(7, 1, 7)
	b.points(13, 17)
	b.flip()
	b.want("Scans", b.scans(), 0)
	b.want("Finals", b.finals(), []int{61, 67, 73})
	b.want("the pointers", of(b.word(64), b.word(65), b.word(70), b.word(71)), of(7, 13, 1, 7))
	b.want("Scans", b.scans(), 4)
	b.want("the pointers", of(b.word(64), b.word(65), b.word(70), b.word(71)), of(67, 77, 61, 67))
	b.drops()
	heres(b, 61, 67, 73, 77)
	b.collects()
	heres(b)
}

// TestFinalsOfOne has it told once in its life, whatever becomes of it.
func TestFinalsOfOne(t *testing.T) {
	b := heap(t, 40)
	at := b.lays(final(0, 1), 1)
	for turn := range 6 {
		b.flip()
		if turn < 2 {
			at = b.moved(at)
		}
		l := b.finals()
		if turn == 2 {
			b.want("Finals", l, []int{1 + 40*((turn+1)%2)})
			at = l[0]
		} else {
			b.want("Finals", l, []int{})
		}
		if turn == 3 {
			at = b.moved(at)
		}
		b.scans()
		b.drops()
		b.want("Here", b.h.Here(at), turn < 4)
	}
}

// P7

func TestDropWhenItIsNotTheTime(t *testing.T) {
	b := heap(t, 60)
	b.want("Drop of an empty heap", of(b.drop()), of([]int{}, false))
	b.lays(weak, 1)
	b.lays(has(1, 0), 5)
	b.lays(has(1, 0), 9)
	b.points(1, 9)
	b.points(5, 5)
	b.want("Drop, not moving", of(b.drop()), of([]int{}, false))
	b.flip()
	b.want("Moved", of(b.moved(1), b.moved(5)), of(61, 65))
	for range 2 {
		b.want("Drop ahead of the end of Scan", of(b.drop()), of([]int{}, false))
		b.want("the weak pointer", b.word(64), 9)
		b.want("Scan", b.scan(), true)
	}
	b.want("Drop", of(b.drop()), of([]int{1}, true))
	b.want("the weak pointer", b.word(64), 0)
	b.want("Drop again", of(b.drop()), of([]int{}, false))
	b.want("Moving", b.h.Moving(), false)
	b.want("Room", b.room(), 52)
}

func TestDropOfWeakOnes(t *testing.T) {
	b := heap(t, 100)
	b.lays(has(0, 1), 1) // goes
	b.lays(has(0, 1), 5) // does not
	at := 9
	for range 8 {
		at = 4 + b.lays(weak, at)
	}
	b.points(9, 1)   // what goes
	b.points(13, 5)  // what does not
	b.points(17, 0)  // nothing
	b.points(21, 0)  // comes to lead to what is here
	b.points(25, 9)  // another weak one, which goes
	b.points(29, 37) // another weak one, which does not
	b.points(33, 33) // itself
	b.points(37, 5)  // does not go: it is told by nobody
	b.flip()
	b.want("Moved", b.moved(1), 101)
	for k, p := range []int{33, 29, 25, 21, 17, 13, 9} {
		b.want("Moved", b.moved(p), 105+4*k)
	}
	b.lays(has(0, 0), 133)
	b.lays(weak, 137)
	b.points(117, 133)
	b.points(137, 101)
	b.want("Scans", b.scans(), 10)
	// By the order in which they were laid, which isn't that of their places now.
	b.want("Drop", b.drops(), []int{4, 8})
	for _, x := range []struct{ at, p int }{{129, 101}, {125, 0}, {121, 0}, {117, 133}, {113, 129}, {109, 0}, {105, 105}, {137, 101}} {
		b.want(fmt.Sprintf("the pointer of %d", x.at), b.word(x.at+3), x.p)
		b.want(fmt.Sprintf("Ptr(%d, 0)", x.at), of(b.ptr(x.at, 0)), of(x.p, api.OK))
	}
	// The next collection: the order is the same, what leads to nothing is told no more.
	b.flip()
	for k, p := range []int{137, 129, 125, 121, 117, 113, 109, 105} {
		b.want("Moved", b.moved(p), 1+4*k)
	}
	b.scans()
	b.want("Drop", b.drops(), []int{3, 6, 12})
}

// TestDropOfWhatWeakOnesShare has several lead to one that is let go of.
func TestDropOfWhatWeakOnesShare(t *testing.T) {
	b := heap(t, 60)
	b.lays(weak, 1)
	b.lays(has(0, 0), 5)
	b.lays(weak, 9)
	b.lays(weak, 13)
	for _, at := range []int{13, 1, 9} {
		b.points(at, 5)
	}
	to, lost := b.collects(13, 9, 1)
	b.want("the places", to, []int{61, 65, 69})
	b.want("the serials", lost, []int{1, 3, 4})
	_, lost = b.collects(to...)
	b.want("the serials of the next one", lost, []int{})
}

// TestDropOfWeakOnesThatAreLetGoOf tells of none of them, and nothing is done where they were, or where others are later.
func TestDropOfWeakOnesThatAreLetGoOf(t *testing.T) {
	b := heap(t, 40)
	b.lays(weak, 1)
	b.lays(weak, 5)
	b.lays(final(0, 1), 9)
	b.points(1, 9)
	b.points(5, 1)
	_, lost := b.collects()
	b.want("the serials", lost, []int{})
	for range 4 {
		var roots []int
		from := b.h.spaces[b.h.inUse].Base
		for k := range 3 {
			at := b.lays(has(1, 0), from+4*k)
			b.points(at, at)
			roots = append(roots, at)
		}
		b.flip()
		b.want("Finals", b.finals(), []int{})
		for _, p := range roots {
			b.moved(p)
		}
		b.scans()
		b.want("Drop", b.drops(), []int{})
		b.collects()
	}
}

// TestDropOfFinalsThatWereNotTold lets go of them, of what they lead to, and of weak pointers to them; those that have gone are told later.
func TestDropOfFinalsThatWereNotTold(t *testing.T) {
	b := heap(t, 60)
	b.lays(final(1, 0), 1)
	b.lays(final(1, 0), 5)
	b.lays(weak, 9)
	b.lays(weak, 13)
	b.points(1, 5)
	b.points(9, 1)
	b.points(13, 5)
	b.flip()
	b.want("Moved", of(b.moved(9), b.moved(13), b.moved(5)), of(61, 65, 69))
	b.scans()
	b.want("Drop", b.drops(), []int{3})
	heres(b, 61, 65, 69)
	b.flip()
	b.want("Finals", b.finals(), []int{1})
	b.want("Serial", of(b.serial(1)), of(2, api.OK))
	b.scans()
	b.drops()
	b.collects()
	// Others where they were are not taken for them.
	for turn := range 4 {
		b.lays(has(0, 0), 61-turn%2*60)
		b.flip()
		b.want("Finals", b.finals(), []int{})
		b.drops()
	}
}

// TestDropBehindFinals has a weak one lead on to what Finals moved.
func TestDropBehindFinals(t *testing.T) {
	b := heap(t, 40)
	b.lays(weak, 1)
	b.lays(final(0, 1), 5)
	b.points(1, 5)
	b.flip()
	b.want("Moved", b.moved(1), 41)
	b.scans()
	b.want("Finals", b.finals(), []int{45})
	b.want("Drop ahead of Scan of them", of(b.drop()), of([]int{}, false))
	b.want("Scan", of(b.scan(), b.scan()), of(true, false))
	b.want("Drop", b.drops(), []int{})
	b.want("Ptr", of(b.ptr(41, 0)), of(45, api.OK))
	// Behind that it is let go of, as all others.
	b.flip()
	b.want("Moved", b.moved(41), 1)
	b.scans()
	b.want("Finals", b.finals(), []int{})
	b.want("Drop", b.drops(), []int{1})
}

// P8

func TestCanonOfNothing(t *testing.T) {
	b := heap(t, 40)
	for range 4 {
		b.want("Canon of no roots", of(b.canon()), of([]api.Node{}, []int{}, api.OK))
		b.want("Canon of 0", of(b.canon(0)), of([]api.Node{}, []int{-1}, api.OK))
		b.want("Canon of 0", of(b.canon(0, 0, 0)), of([]api.Node{}, []int{-1, -1, -1}, api.OK))
		if !b.flip() {
			b.drops()
		}
	}
	b.lays(has(1, 0), 1)
	b.points(1, 1)
	b.want("Canon of 0", of(b.canon(0)), of([]api.Node{}, []int{-1}, api.OK))
	b.flip()
	b.want("Canon of 0", of(b.canon(0)), of([]api.Node{}, []int{-1}, api.OK))
}

// refused holds Canon of roots, among others and alone, against ErrObject.
func refused(b *both, here int, roots ...int) {
	b.t.Helper()
	for _, p := range roots {
		for _, l := range [][]int{{p}, {here, p}, {p, here}, {0, p}, {p, 0}, {here, 0, p, p, here}} {
			b.want(fmt.Sprintf("Canon(%v)", l), of(b.canon(l...)), of([]api.Node{}, []int{}, api.ErrObject))
		}
	}
}

func TestCanonOfWhatIsNotHere(t *testing.T) {
	far := []int{minInt, -1 << 40, -2, -1, 61, 62, 1 << 17, maxInt}
	b := fieldsOf(t)
	b.points(1, 9, 13)
	b.want("SetNum", b.setNum(1, 0, -1), api.OK)
	refused(b, 1, far...)
	refused(b, 13, 2, 3, 6, 8, 10, 14, 18, 19, 30, 31, 60)
	b.flip()
	b.want("Moved", b.moved(13), 31)
	refused(b, 31, far...)
	refused(b, 31, 1, 9, 13, 2, 30, 32, 37, 60)
	b.scans()
	b.drops()
	refused(b, 31, far...)
	refused(b, 31, 1, 9, 13, 2, 30, 32, 37, 60)
}

func TestCanonWhenNotMoving(t *testing.T) {
	b := fieldsOf(t)
	b.points(1, 13, 1)
	b.points(9, 1)
	b.points(13, 9)
	b.want("SetNum", of(b.setNum(1, 0, -4), b.setNum(13, 0, 1000000)), of(api.OK, api.OK))
	b.want("SetFreed", b.setFreed(13, true), api.OK)
	one := api.Node{Serial: 1, Shape: has(2, 2), Ptrs: []int{1, 0}, Nums: []int{-4, 0}}
	three := api.Node{Serial: 3, Shape: final(1, 1), Freed: true, Ptrs: []int{2}, Nums: []int{1000000}}
	two := api.Node{Serial: 2, Shape: weak, Ptrs: []int{0}}
	b.want("Canon", of(b.canon(1)), of([]api.Node{one, three, two}, []int{0}, api.OK))
	b.want("Canon", of(b.canon(0, 1, 13, 1, 9)), of([]api.Node{one, three, two}, []int{-1, 0, 1, 0, 2}, api.OK))
	two.Ptrs = []int{-2}
	b.want("Canon of a weak one", of(b.canon(9, 9)), of([]api.Node{two}, []int{0, 0}, api.OK))
	three.Ptrs = []int{1}
	b.want("Canon", of(b.canon(13)), of([]api.Node{three, two}, []int{0}, api.OK))
	b.points(9, 0)
	two.Ptrs = []int{-1}
	b.want("Canon of a weak one of 0", of(b.canon(9)), of([]api.Node{two}, []int{0}, api.OK))
}

// TestCanonInTheMidst has pointers of what is here, and of what is there, lead to what has gone, to what has not, and to nothing.
func TestCanonInTheMidst(t *testing.T) {
	b := heap(t, 60)
	b.lays(has(3, 0), 1)  // goes: to what goes, to what does not, to itself
	b.lays(has(2, 1), 7)  // does not: to what goes, twice by two ways
	b.lays(has(1, 0), 13) // goes: to the first one
	b.lays(weak, 17)      // goes, to what goes
	b.lays(weak, 21)      // does not, to what goes
	b.lays(weak, 25)      // goes, to what does not
	b.points(1, 13, 7, 1)
	b.points(7, 1, 21)
	b.points(13, 1)
	b.points(17, 13)
	b.points(21, 13)
	b.points(25, 7)
	b.want("SetNum", b.setNum(7, 0, 5), api.OK)
	nodes := []api.Node{
		{Serial: 1, Shape: has(3, 0), Ptrs: []int{3, 4, 0}},
		{Serial: 4, Shape: weak, Ptrs: []int{3}},
		{Serial: 6, Shape: weak, Ptrs: []int{4}},
		{Serial: 3, Shape: has(1, 0), Ptrs: []int{0}},
		{Serial: 2, Shape: has(2, 1), Ptrs: []int{0, 5}, Nums: []int{5}},
		{Serial: 5, Shape: weak, Ptrs: []int{3}},
	}
	b.want("Canon", of(b.canon(1, 17, 25)), of(nodes, []int{0, 1, 2}, api.OK))
	b.flip()
	b.want("Moved", of(b.moved(25), b.moved(13), b.moved(1), b.moved(17)), of(61, 65, 69, 75))
	b.want("Canon", of(b.canon(69, 75, 61)), of(nodes, []int{0, 1, 2}, api.OK))
	// Of the weak one alone: what it leads to has gone, or has not, and isn't in the order.
	b.want("Canon", of(b.canon(61, 75)), of([]api.Node{{Serial: 6, Shape: weak, Ptrs: []int{-2}}, {Serial: 4, Shape: weak, Ptrs: []int{-2}}}, []int{0, 1}, api.OK))
	b.want("owed", b.h.owed, 10)
	b.want("the pointers", of(b.word(72), b.word(73), b.word(74), b.word(78), b.word(64), b.word(68)), of(13, 7, 1, 13, 7, 1))
	for k := range 6 {
		b.want("Scan", b.scan(), true)
		b.want(fmt.Sprintf("Canon behind %d", k+1), of(b.canon(69, 75, 61)), of(nodes, []int{0, 1, 2}, api.OK))
	}
	b.want("Drop", b.drops(), []int{})
	b.want("Canon", of(b.canon(69, 75, 61)), of(nodes, []int{0, 1, 2}, api.OK))
}

// TestCanonChangesNothing asks for it ahead of each step of a collection, and holds that against one without.
func TestCanonChangesNothing(t *testing.T) {
	for _, asked := range []bool{false, true} {
		b := heap(t, 60)
		b.lays(has(2, 0), 1)
		b.lays(weak, 7)
		b.lays(final(1, 0), 11)
		b.lays(has(1, 0), 15)
		b.points(1, 7, 1)
		b.points(7, 15)
		b.points(11, 15)
		root := 1
		ask := func() {
			if asked {
				b.canon(root)
				b.canon(root, 0, root)
				b.canon(2)
			}
		}
		ask()
		b.flip()
		root = b.moved(1)
		ask()
		b.want("Room, owed", of(b.room(), b.h.owed), of(42, 12))
		b.want("the pointers", of(b.word(64), b.word(65)), of(7, 1))
		for b.scan() {
			ask()
		}
		b.want("the weak pointer", b.word(70), 15)
		b.want("Finals", b.finals(), []int{71})
		ask()
		for b.scan() {
			ask()
		}
		b.want("Drop", b.drops(), []int{})
		b.want("Ptr", of(b.ptr(67, 0)), of(75, api.OK))
		ask()
	}
}

// P9

// shadows is two heaps on which the same is done: the one is collected, the other one never, so that it needs more room. Places are known by where they are in two lists of roots.
type shadows struct {
	t              *testing.T
	a, b           *Heap
	rootsA, rootsB []int
	// told is whether Finals were told in this collection; ended is how many came to their end.
	told  bool
	ended int
}

// same holds what one comes to from the roots in both heaps against one another.
func (s *shadows) same(behind string) {
	s.t.Helper()
	one, seatsOne, e := s.a.Canon(s.rootsA)
	other, seatsOther, is := s.b.Canon(s.rootsB)
	if fmt.Sprint(one, seatsOne, e) != fmt.Sprint(other, seatsOther, is) || e != api.OK {
		s.t.Fatalf("behind %s: Canon is %+v, %v, error %d, not %+v, %v, error %d", behind, one, seatsOne, e, other, seatsOther, is)
	}
}

// placeB is where the object of a serial is in the heap that is never collected.
func (s *shadows) placeB(serial int) int {
	for _, at := range s.b.places[s.b.inUse] {
		if n, _ := s.b.Serial(at); n == serial {
			return at
		}
	}
	return 0
}

// fits tells whether an object has room by the theorem's words: of all that is here, and of what is there and has not gone, and its own.
func (s *shadows) fits(shape api.Shape) bool {
	_, sum := sizeOf(shape)
	for which := range s.a.spaces {
		for _, at := range s.a.places[which] {
			w, _ := s.a.words.Load(at)
			if w%4 != 2 {
				_, takes := sizeOf(first(shapeOf(w)))
				sum += takes
			}
		}
	}
	return sum <= s.a.spaces[0].Size
}

// first is the first of two.
func first(s api.Shape, _ bool) api.Shape { return s }

// alloc lays an object in both, if the one that is collected has room, as a root.
func (s *shadows) alloc(shape api.Shape, root int) {
	s.t.Helper()
	fits := s.fits(shape)
	at, e := s.a.Alloc(shape)
	if fits != (e == api.OK) {
		s.t.Fatalf("Alloc(%+v): error %d", shape, e)
	}
	if e != api.OK {
		return
	}
	other, e := s.b.Alloc(shape)
	if e != api.OK {
		s.t.Fatalf("Alloc(%+v), never collected: error %d", shape, e)
	}
	// Serials go on alike.
	serial, _ := s.a.Serial(at)
	if n, _ := s.b.Serial(other); n != serial {
		s.t.Fatalf("serial %d, not %d", serial, n)
	}
	s.rootsA[root], s.rootsB[root] = at, other
}

// mutate does one thing of chance to both, by way of the roots.
func (s *shadows) mutate(pick func(int) int) {
	s.t.Helper()
	from, to := pick(len(s.rootsA)), pick(len(s.rootsA))
	i, n := pick(3), pick(2000)-1000
	var one, other any
	switch pick(9) {
	case 0:
		s.alloc([]api.Shape{weak, has(pick(4), pick(3)), final(pick(3), pick(3)), has(pick(9), pick(9))}[pick(4)], from)
	case 1, 2:
		p, e := s.a.Ptr(s.rootsA[from], i)
		q, is := s.b.Ptr(s.rootsB[from], i)
		one, other = e, is
		if e == api.OK {
			s.rootsA[to], s.rootsB[to] = p, q
		}
	case 3, 4, 5:
		one = s.a.SetPtr(s.rootsA[from], i, s.rootsA[to])
		other = s.b.SetPtr(s.rootsB[from], i, s.rootsB[to])
	case 6:
		one = s.a.SetNum(s.rootsA[from], i, n)
		other = s.b.SetNum(s.rootsB[from], i, n)
	case 7:
		one = of(s.a.Num(s.rootsA[from], i))
		other = of(s.b.Num(s.rootsB[from], i))
	case 8:
		one = s.a.SetFreed(s.rootsA[from], n > 0)
		other = s.b.SetFreed(s.rootsB[from], n > 0)
	}
	if fmt.Sprint(one) != fmt.Sprint(other) {
		s.t.Fatalf("%v, not %v", one, other)
	}
}

// lost makes the weak ones lead to nothing that the other heap was told of; nothing but they led there.
func (s *shadows) lost(serials []int) {
	s.t.Helper()
	for _, serial := range serials {
		at := s.placeB(serial)
		if shape, _, e := s.b.Shape(at); shape != weak || e != api.OK {
			s.t.Fatalf("serial %d is lost: %+v, error %d", serial, shape, e)
		}
		p, _ := s.b.Ptr(at, 0)
		order, _, _ := s.b.Canon(s.rootsB)
		for _, n := range order {
			if q := s.placeB(n.Serial); q == p {
				s.t.Fatalf("serial %d has let go of %d, which one comes to", serial, n.Serial)
			}
		}
		s.b.SetPtr(at, 0, 0)
	}
}

// collect goes one step on with a collection, in whose steps anything may be done between.
func (s *shadows) collect() string {
	s.t.Helper()
	if s.a.Flip() {
		for k, p := range s.rootsA {
			s.rootsA[k] = s.a.Moved(p)
		}
		s.told = false
		return "Flip"
	}
	if s.a.Scan() {
		return "Scan"
	}
	if !s.told {
		s.told = true
		for k, at := range s.a.Finals() {
			serial, _ := s.a.Serial(at)
			s.rootsA[k%len(s.rootsA)], s.rootsB[k%len(s.rootsB)] = at, s.placeB(serial)
		}
		return "Finals"
	}
	serials, is := s.a.Drop()
	if !is {
		s.t.Fatalf("Drop is false")
	}
	s.lost(serials)
	s.ended++
	if s.a.Room() != whole(s.a)-used(s.a) {
		s.t.Fatalf("a heap that is not moving owes")
	}
	s.turned()
	return "Drop"
}

// whole is how many words a heap's space has, and used how many are taken of the one in use.
func whole(h *Heap) int { return h.spaces[h.inUse].Size }
func used(h *Heap) int  { return h.spaces[h.inUse].Top - h.spaces[h.inUse].Base }

// turned holds all pointers behind Drop against what is here: none leads to the old space.
func (s *shadows) turned() {
	s.t.Helper()
	for _, at := range s.a.places[s.a.inUse] {
		shape, _, _ := s.a.Shape(at)
		for i := range shape.Ptrs {
			w, _ := s.a.words.Load(at + 3 + i)
			if w != 0 && !s.a.Here(int(w)) {
				s.t.Fatalf("the pointer %d of %d leads to %d", i, at, w)
			}
		}
	}
}

// TestCollectedOrNot has many collections, with anything done between their steps: what one comes to is as it is in a heap without them.
func TestCollectedOrNot(t *testing.T) {
	ends := 0
	for start := range 200 {
		pick := chance(start)
		s := &shadows{t: t, rootsA: make([]int, 5), rootsB: make([]int, 5)}
		s.a, _ = New(60 + pick(100))
		s.b, _ = New(3000)
		for range 300 {
			behind := "what was done"
			if pick(3) == 0 {
				behind = s.collect()
			} else {
				s.mutate(pick)
			}
			s.same(behind)
		}
		ends += s.ended
	}
	if ends < 200 {
		t.Errorf("%d collections came to their end", ends)
	}
}

// TestNothingBetween has collections of all that chance lays, with nothing done between: the same Canon at each step, and each final told once, when one comes to it no more.
func TestNothingBetween(t *testing.T) {
	for start := range 150 {
		pick := chance(start)
		b := heap(t, 150)
		places := layAny(b, pick, 3+pick(12))
		roots := []int{places[pick(len(places))], 0, places[pick(len(places))]}
		told := make(map[int]int)
		for range 4 {
			nodes, seats, _ := b.canon(roots...)
			// Behind Drop a weak one's pointer to what was let go of is one to nothing.
			b.flip()
			for k, p := range roots {
				roots[k] = b.moved(p)
			}
			for b.scan() {
				b.want("Canon", of(b.canon(roots...)), of(nodes, seats, api.OK))
			}
			for _, at := range b.finals() {
				n, _ := b.serial(at)
				told[n]++
				for _, x := range nodes {
					if x.Serial == n {
						t.Errorf("serial %d is told, which one comes to", n)
					}
				}
			}
			for b.scan() {
				b.want("Canon", of(b.canon(roots...)), of(nodes, seats, api.OK))
			}
			b.drops()
		}
		for n, times := range told {
			if times != 1 {
				t.Errorf("serial %d is told %d times", n, times)
			}
		}
	}
}

// layAny lays objects of chance, with all fields of chance.
func layAny(b *both, pick func(int) int, n int) []int {
	b.t.Helper()
	var places []int
	for range n {
		at, e := b.alloc([]api.Shape{weak, has(pick(4), pick(3)), final(pick(3), pick(2)), has(2, 0)}[pick(4)])
		if e == api.OK {
			places = append(places, at)
		}
	}
	for _, at := range places {
		s, _, _ := b.shape(at)
		for i := range s.Ptrs {
			b.setPtr(at, i, append(places, 0)[pick(len(places)+1)])
		}
		for i := range s.Data {
			b.setNum(at, i, pick(200)-100)
		}
	}
	return places
}

// TestFilledAndCollected fills a heap, keeps some of it, fills it again, and so on: each space is in use in its turn.
func TestFilledAndCollected(t *testing.T) {
	b := heap(t, 100)
	var kept []int
	laid := 0
	for turn := range 12 {
		for range b.room() / 4 {
			at, e := b.alloc(has(1, 0))
			if e != api.OK {
				t.Fatalf("Alloc in turn %d: error %d", turn, e)
			}
			laid++
			// A chain of all that is kept.
			if laid%3 == 0 && len(kept) < 20 {
				if len(kept) > 0 {
					b.points(at, kept[len(kept)-1])
				}
				kept = append(kept, at)
			}
		}
		b.want("Alloc of a full heap", of(b.alloc(has(0, 0))), of(0, api.ErrMemory))
		nodes, _, _ := b.canon(kept...)
		b.want("Flip", b.flip(), true)
		b.want("Alloc of a full heap", of(b.alloc(has(0, 0))), of(0, api.ErrMemory))
		for k := len(kept) - 1; k >= 0; k -= 2 {
			kept[k] = b.moved(kept[k])
		}
		b.scans()
		for k := range kept {
			kept[k] = b.moved(kept[k])
		}
		b.drops()
		again, _, _ := b.canon(kept...)
		b.want("Canon", again, nodes)
		b.want("Room", b.room(), 100-4*len(kept))
		kept = kept[len(kept)/2:]
		b.points(kept[0], 0)
	}
}

// TestAnyCalls holds all calls of chance against the rules: what is here, there, gone and nothing, in all their turns.
func TestAnyCalls(t *testing.T) {
	drops, errs := 0, make(map[api.Errno]int)
	for start := range 300 {
		pick := chance(start)
		b := heap(t, 16+pick(70))
		b.seldom = true
		for range 250 {
			at, e := anyCall(b, pick)
			errs[e]++
			if at == dropped {
				drops++
			}
			if pick(20) == 0 {
				b.looks()
			}
		}
		b.looks()
	}
	if drops < 800 || errs[api.ErrMemory] < 1000 || errs[api.ErrObject] < 1000 || errs[api.ErrField] < 1000 || errs[api.ErrArg] < 100 {
		t.Errorf("%d drops, errors %v", drops, errs)
	}
}

// dropped stands for a Drop that was true.
const dropped = -77

// anyPlace is a place of chance: mostly one where an object is, or was.
func anyPlace(b *both, pick func(int) int) int {
	l := append(slices.Clone(b.h.places[0]), b.h.places[1]...)
	switch {
	case len(l) == 0 || pick(12) == 0:
		return pick(len(b.r.l)+6) - 3
	case pick(12) == 0:
		return 0
	}
	return l[pick(len(l))]
}

// anyCall is one call of chance, on both; what was dropped, and the error.
func anyCall(b *both, pick func(int) int) (int, api.Errno) {
	at, p := anyPlace(b, pick), anyPlace(b, pick)
	i, n := pick(4)-pick(2), pick(2000)-1000
	var e api.Errno
	switch pick(24) {
	case 0, 1, 2:
		_, e = b.alloc([]api.Shape{weak, has(pick(4), pick(3)), final(pick(3), pick(2)), has(pick(10)-1, pick(10)), {Ptrs: pick(3), Weak: true}}[pick(5)])
	case 3, 4:
		_, e = b.ptr(at, i)
	case 5, 6, 7, 8:
		e = b.setPtr(at, i, p)
	case 9:
		_, e = b.num(at, i)
	case 10:
		e = b.setNum(at, i, n)
	case 11:
		_, _, e = b.shape(at)
		b.serial(at)
	case 12:
		_, e = b.second(at)
		b.room()
	case 13:
		e = b.setFreed(at, n > 0)
	case 14:
		e = b.setSecond(at, uint64(n))
	case 15, 16:
		b.moved(p)
	case 17:
		b.flip()
	case 18, 19, 20:
		b.scan()
	case 21:
		if pick(4) == 0 {
			b.finals()
		}
	case 22:
		if _, is := b.drop(); is {
			return dropped, api.OK
		}
	case 23:
		_, _, e = b.canon(at, p)
	}
	return 0, e
}

// R3

func TestListsAreNewMemory(t *testing.T) {
	b := heap(t, 60)
	for k := range 3 {
		b.lays(final(1, 1), 1+10*k)
		b.lays(weak, 7+10*k)
		b.points(7+10*k, 1+10*k)
	}
	b.flip()
	b.want("Moved", of(b.moved(17), b.moved(7), b.moved(27), b.moved(11)), of(61, 65, 69, 73))
	finals := b.finals()
	b.want("Finals", finals, []int{79, 85})
	spoil(finals)
	b.want("Finals", b.finals(), []int{})
	b.scans()
	b.drops()
	b.want("Ptr", of(b.ptr(61, 0)), of(73, api.OK))
	b.flip()
	b.want("Moved", of(b.moved(69), b.moved(65)), of(1, 5))
	b.want("Moved", b.moved(73), 9)
	// The one that is on the list still: the list isn't what was spoiled.
	b.want("Finals", b.finals(), []int{})
	b.scans()
	lost := b.drops()
	b.want("Drop", lost, []int{2, 6})
	spoil(lost)
	b.looks()
	b.want("Serial", of(b.serial(1)), of(6, api.OK))
	b.flip()
	b.want("Moved", of(b.moved(5), b.moved(1)), of(61, 65))
	b.want("Finals", b.finals(), []int{69})
	b.scans()
	b.want("Drop", b.drops(), []int{})
}

// spoil writes into a list, into its spare room, and behind that.
func spoil(l []int) {
	l = l[:cap(l)]
	for i := range l {
		l[i] = -5
	}
	l = append(l, -5, -5, -5)
	l[0] = -6
}

func TestListsOfCanonAreNewMemory(t *testing.T) {
	for _, moving := range []bool{false, true} {
		b := fieldsOf(t)
		b.points(1, 9, 13)
		b.points(9, 13)
		b.points(13, 1)
		root := 1
		if moving {
			b.flip()
			root = b.moved(1)
		}
		nodes, seats, _ := b.canon(root, 0, root)
		again, others, _ := b.canon(root, 0, root)
		before := fmt.Sprint(again, others)
		for k := range nodes {
			spoil(nodes[k].Ptrs)
			if len(nodes[k].Nums) > 0 {
				spoil(nodes[k].Nums)
			}
			nodes[k].Serial = -5
		}
		spoil(seats)
		b.want("Canon, told ahead of that", fmt.Sprint(again, others), before)
		again, others, _ = b.canon(root, 0, root)
		b.want("Canon, told behind that", fmt.Sprint(again, others), before)
		// Lists of one answer lie apart.
		for k := range again {
			for range 9 {
				again[k].Ptrs = append(again[k].Ptrs, -5)
				again[k].Nums = append(again[k].Nums, -5)
			}
		}
		again[0].Ptrs, again[1].Ptrs, again[2].Ptrs = again[0].Ptrs[:2], again[1].Ptrs[:1], again[2].Ptrs[:1]
		again[0].Nums, again[1].Nums, again[2].Nums = again[0].Nums[:2], nil, again[2].Nums[:1]
		b.want("Canon, grown", fmt.Sprint(again, others), before)
	}
}

func TestRootsAreNotKeptOrWritten(t *testing.T) {
	b := fieldsOf(t)
	b.points(1, 13, 9)
	spare := []int{1, 0, 9, 1, 70, 71, 72, 73}
	want := slices.Clone(spare)
	nodes, seats, e := b.h.Canon(spare[:4])
	b.want("Canon", of(len(nodes), seats, e), of(3, []int{0, -1, 1, 0}, api.OK))
	b.want("the roots", spare, want)
	_, _, e = b.h.Canon(spare[:5])
	b.want("Canon", of(e, spare), of(api.ErrObject, want))
	before := fmt.Sprint(nodes, seats)
	for i := range spare {
		spare[i] = 99
	}
	b.want("what was told", fmt.Sprint(nodes, seats), before)
	b.looks()
	b.want("Canon", of(b.canon(1, 0, 9, 1)), of(nodes, seats, api.OK))
	for i := range seats {
		seats[i] = 98
	}
	b.want("the roots", spare, slices.Repeat([]int{99}, 8))
}

// TestAnswersDoNotFollowTheHeap changes the heap behind an answer: the answer stays.
func TestAnswersDoNotFollowTheHeap(t *testing.T) {
	b := fieldsOf(t)
	b.points(1, 9, 13)
	nodes, seats, _ := b.canon(1)
	before := fmt.Sprint(nodes, seats)
	b.points(1, 0, 0)
	b.want("SetNum", b.setNum(1, 0, 77), api.OK)
	b.want("SetFreed", b.setFreed(1, true), api.OK)
	b.flip()
	finals := b.finals()
	b.want("Finals", finals, []int{31})
	b.scans()
	b.drops()
	b.collects(31)
	b.want("Finals", finals, []int{31})
	b.want("Canon", fmt.Sprint(nodes, seats), before)
}

// R4

// TestHeapsKnowNothingOfOneAnother does anything to two heaps by turns: each one is as it is by the rules.
func TestHeapsKnowNothingOfOneAnother(t *testing.T) {
	for start := range 40 {
		pick := chance(start)
		l := []*both{heap(t, 40), heap(t, 40), heap(t, 60)}
		for range 150 {
			anyCall(l[pick(3)], pick)
		}
		for _, b := range l {
			b.looks()
		}
	}
}

// TestTheSameCallsTellTheSame does the same to two heaps, one behind the other.
func TestTheSameCallsTellTheSame(t *testing.T) {
	for start := range 40 {
		var words []string
		for range 2 {
			pick := chance(start)
			b := heap(t, 50)
			for range 150 {
				anyCall(b, pick)
			}
			words = append(words, fmt.Sprint(b.r.l, b.h.Room()))
		}
		if words[0] != words[1] {
			t.Errorf("from %d on: %s, then %s", start, words[0], words[1])
		}
	}
}
