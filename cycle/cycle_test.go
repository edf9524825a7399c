package cycle

import (
	"fmt"
	"math"
	"slices"
	"testing"

	"middenheap/api"
	"middenheap/heap"
)

const (
	maxInt = math.MaxInt
	minInt = math.MinInt
)

// Some shapes: of so many pointers and numbers, so to be finalized, and a weak one.
func has(ptrs, data int) api.Shape   { return api.Shape{Ptrs: ptrs, Data: data} }
func final(ptrs, data int) api.Shape { return api.Shape{Ptrs: ptrs, Data: data, Final: true} }

var weak = api.Shape{Ptrs: 1, Weak: true}

// takes is how many words an object of a shape takes.
func takes(s api.Shape) int {
	sizes := []int{4, 6, 8, 12, 16, 24}
	return sizes[slices.IndexFunc(sizes, func(n int) bool { return n >= 3+s.Ptrs+s.Data })]
}

// chance is numbers that look like chance, and are the same each time.
func chance(start int) func(int) int {
	x := uint64(start)*2862933555777941757 + 3037000493
	return func(n int) int {
		x = x*6364136223846793005 + 1442695040888963407
		return int(x >> 33 % uint64(n))
	}
}

// of is several answers as one.
func of(l ...any) []any { return l }

// spoil writes into a list, into its spare room, and behind that.
func spoil(l []int) {
	l = l[:cap(l)]
	for i := range l {
		l[i] = -5
	}
	l = append(l, -5, -5, -5)
	l[0] = -6
}

// The phases.
const (
	atNone = iota
	atFirst
	atSecond
)

// rules is the chapter, word for word, on a heap of its own.
type rules struct {
	h           *heap.Heap
	phase       int
	ready, lost []int
}

func (r *rules) start(roots []int) ([]int, bool) {
	if r.phase != atNone {
		return nil, false
	}
	r.h.Flip()
	r.phase = atFirst
	var told []int
	for _, p := range roots {
		told = append(told, r.h.Moved(p))
	}
	for k, p := range r.ready {
		r.ready[k] = r.h.Moved(p)
	}
	return told, true
}

func (r *rules) step() bool {
	if r.phase == atNone {
		return false
	}
	if r.h.Scan() {
		return false
	}
	if r.phase == atFirst {
		for _, at := range r.h.Finals() {
			r.ready = append(r.ready, at)
		}
		r.phase = atSecond
		return false
	}
	serials, _ := r.h.Drop()
	for _, n := range serials {
		r.lost = append(r.lost, n)
	}
	r.phase = atNone
	return true
}

// picture is all that a heap tells of itself without being changed by that.
func picture(h *heap.Heap, words int) string {
	var here []int
	var seconds []uint64
	for at := -1; at < 2*words+3; at++ {
		if h.Here(at) {
			w, _ := h.Second(at)
			here, seconds = append(here, at), append(seconds, w)
		}
	}
	nodes, seats, e := h.Canon(here)
	return fmt.Sprint(h.Room(), h.Moving(), here, seconds, nodes, seats, e)
}

// both is a cycle with its heap, and the rules with theirs: whatever is done to the one is done to the other, and held against it.
type both struct {
	t     *testing.T
	words int
	h     *heap.Heap
	c     *Cycle
	r     *rules
	// last is what was told of the heap last, if nothing was done since.
	last string
}

// on is both, on heaps of so many words a space.
func on(t *testing.T, words int) *both {
	t.Helper()
	h, e := heap.New(words)
	other, _ := heap.New(words)
	c := New(h)
	if e != api.OK || c == nil {
		t.Fatalf("New of a heap of %d words: %v, error %d", words, c, e)
	}
	b := &both{t: t, words: words, h: h, c: c, r: &rules{h: other}}
	b.looks()
	return b
}

// want holds what was told against what is to be.
func (b *both) want(what string, got, want any) {
	b.t.Helper()
	if g, w := fmt.Sprint(got), fmt.Sprint(want); g != w {
		b.t.Errorf("%s: %s, not %s", what, g, w)
	}
}

// did holds an answer against the rules', and then all that is there.
func (b *both) did(what string, got, want []any) {
	b.t.Helper()
	if g, w := fmt.Sprint(got), fmt.Sprint(want); g != w {
		b.t.Fatalf("%s: %s, by the rules %s", what, g, w)
	}
	b.looks()
}

// looks holds what is there against the rules.
func (b *both) looks() {
	b.t.Helper()
	b.last = picture(b.h, b.words)
	if want := picture(b.r.h, b.words); b.last != want {
		b.t.Fatalf("the heap is %s, by the rules %s", b.last, want)
	}
	if got, want := b.c.Live(), b.r.phase != atNone; got != want {
		b.t.Fatalf("Live is %v", got)
	}
}

// same holds what is there against what was there behind the last call.
func (b *both) same(behind string) {
	b.t.Helper()
	if p := picture(b.h, b.words); p != b.last {
		b.t.Fatalf("behind %s the heap is %s, and was %s", behind, p, b.last)
	}
}

func (b *both) live() bool {
	b.t.Helper()
	got := b.c.Live()
	b.same("Live")
	b.did("Live", of(got), of(b.r.phase != atNone))
	return got
}

func (b *both) start(roots ...int) ([]int, bool) {
	b.t.Helper()
	told, ok := b.c.Start(roots)
	want, is := b.r.start(roots)
	b.did(fmt.Sprintf("Start(%v)", roots), of(told, ok), of(want, is))
	return told, ok
}

// starts is start, when none goes on: where the roots are.
func (b *both) starts(roots ...int) []int {
	b.t.Helper()
	told, ok := b.start(roots...)
	b.want(fmt.Sprintf("Start(%v)", roots), of(len(told), ok, b.live()), of(len(roots), true, true))
	return told
}

func (b *both) step() bool {
	b.t.Helper()
	got := b.c.Step()
	b.did("Step", of(got), of(b.r.step()))
	return got
}

// steps is so many, none of which is true, and with all of which one goes on.
func (b *both) steps(n int) {
	b.t.Helper()
	for k := range n {
		b.want(fmt.Sprintf("Step %d of %d, Live", k+1, n), of(b.step(), b.live()), of(false, true))
	}
}

// ends is one, which is true, behind which none goes on.
func (b *both) ends() {
	b.t.Helper()
	b.want("the last Step, Live", of(b.step(), b.live()), of(true, false))
}

// finishes is step until it is true: how many.
func (b *both) finishes() int {
	b.t.Helper()
	for n := 1; n < 10000; n++ {
		if b.step() {
			return n
		}
	}
	b.t.Fatal("10000 Steps without an end")
	return 0
}

// collects is a whole collection: where the roots are.
func (b *both) collects(roots ...int) []int {
	b.t.Helper()
	told := b.starts(roots...)
	b.finishes()
	return told
}

func (b *both) ready() []int {
	b.t.Helper()
	l := b.c.Ready()
	b.same("Ready")
	want := b.r.ready
	b.r.ready = nil
	b.did("Ready", of(l), of(want))
	return l
}

func (b *both) lost() []int {
	b.t.Helper()
	l := b.c.Lost()
	b.same("Lost")
	want := b.r.lost
	b.r.lost = nil
	b.did("Lost", of(l), of(want))
	return l
}

// tells holds what is ready, and what is lost, against what is to be.
func (b *both) tells(ready, lost []int) {
	b.t.Helper()
	b.want("Ready", b.ready(), ready)
	b.want("Lost", b.lost(), lost)
}

func (b *both) alloc(s api.Shape) (int, api.Errno) {
	b.t.Helper()
	at, e := b.h.Alloc(s)
	b.did(fmt.Sprintf("Alloc(%+v)", s), of(at, e), of(b.r.h.Alloc(s)))
	return at, e
}

// lays is alloc, of what is to be at a place, with such pointers.
func (b *both) lays(s api.Shape, want int, ptrs ...int) int {
	b.t.Helper()
	at, e := b.alloc(s)
	b.want(fmt.Sprintf("Alloc(%+v)", s), of(at, e), of(want, api.OK))
	b.points(at, ptrs...)
	return at
}

func (b *both) setPtr(at, i, p int) api.Errno {
	b.t.Helper()
	e := b.h.SetPtr(at, i, p)
	b.did(fmt.Sprintf("SetPtr(%d, %d, %d)", at, i, p), of(e), of(b.r.h.SetPtr(at, i, p)))
	return e
}

// points is setPtr of the pointers from the first one on, without an error.
func (b *both) points(at int, ptrs ...int) {
	b.t.Helper()
	for i, p := range ptrs {
		b.want(fmt.Sprintf("SetPtr(%d, %d, %d)", at, i, p), b.setPtr(at, i, p), api.OK)
	}
}

func (b *both) ptr(at, i int) (int, api.Errno) {
	b.t.Helper()
	p, e := b.h.Ptr(at, i)
	b.did(fmt.Sprintf("Ptr(%d, %d)", at, i), of(p, e), of(b.r.h.Ptr(at, i)))
	return p, e
}

// leads holds a pointer that is told against what is to be.
func (b *both) leads(at, i, want int) {
	b.t.Helper()
	b.want(fmt.Sprintf("Ptr(%d, %d)", at, i), of(b.ptr(at, i)), of(want, api.OK))
}

func (b *both) num(at, i int) (int, api.Errno) {
	b.t.Helper()
	n, e := b.h.Num(at, i)
	b.did(fmt.Sprintf("Num(%d, %d)", at, i), of(n, e), of(b.r.h.Num(at, i)))
	return n, e
}

func (b *both) setNum(at, i, n int) api.Errno {
	b.t.Helper()
	e := b.h.SetNum(at, i, n)
	b.did(fmt.Sprintf("SetNum(%d, %d, %d)", at, i, n), of(e), of(b.r.h.SetNum(at, i, n)))
	return e
}

func (b *both) setFreed(at int, freed bool) api.Errno {
	b.t.Helper()
	e := b.h.SetFreed(at, freed)
	b.did(fmt.Sprintf("SetFreed(%d, %v)", at, freed), of(e), of(b.r.h.SetFreed(at, freed)))
	return e
}

func (b *both) setSecond(at int, w uint64) api.Errno {
	b.t.Helper()
	e := b.h.SetSecond(at, w)
	b.did(fmt.Sprintf("SetSecond(%d, %d)", at, w), of(e), of(b.r.h.SetSecond(at, w)))
	return e
}

// serials holds those of what is here, by rising places, against what is to be.
func (b *both) serials(what string, want ...int) {
	b.t.Helper()
	var got []int
	for at := range 2*b.words + 1 {
		if n, e := b.h.Serial(at); e == api.OK {
			got = append(got, n)
		}
	}
	b.want("the serials of what is here "+what, got, want)
}

// isAt holds the serial of what is at a place against what is to be.
func (b *both) isAt(at, serial int) {
	b.t.Helper()
	n, e := b.h.Serial(at)
	b.want(fmt.Sprintf("Serial(%d)", at), of(n, e), of(serial, api.OK))
}

// Y1

func TestNewOfNoHeap(t *testing.T) {
	if c := New(nil); c != nil {
		t.Errorf("New(nil) is %v", c)
	}
}

// TestNewDoesNothing has a cycle of a heap with objects: none goes on, nothing is told, and the heap is as it was.
func TestNewDoesNothing(t *testing.T) {
	h, _ := heap.New(60)
	at, _ := h.Alloc(final(1, 1))
	w, _ := h.Alloc(weak)
	h.SetPtr(w, 0, at)
	before := picture(h, 60)
	c := New(h)
	if c == nil || c.Live() || len(c.Ready()) != 0 || len(c.Lost()) != 0 || h.Moving() {
		t.Errorf("a new cycle: %v", c)
	}
	if p := picture(h, 60); p != before {
		t.Errorf("the heap is %s, and was %s", p, before)
	}
}

// TestNewOfAHeapThatIsMoving has no phase, and nothing ready, either; Step does nothing, though there is something to scan.
func TestNewOfAHeapThatIsMoving(t *testing.T) {
	h, _ := heap.New(60)
	h.Alloc(final(0, 0))
	at, _ := h.Alloc(has(1, 0))
	h.SetPtr(at, 0, at)
	h.Flip()
	h.Moved(at)
	c := New(h)
	if c == nil || c.Live() || c.Step() || len(c.Ready()) != 0 || len(c.Lost()) != 0 || !h.Moving() {
		t.Errorf("a new cycle: %v", c)
	}
	if !h.Scan() {
		t.Error("nothing is left to scan")
	}
	if n := h.Finals(); len(n) != 1 {
		t.Errorf("Finals are %v", n)
	}
}

// TestLive goes through some collections: Live is true from Start on up to the last Step.
func TestLive(t *testing.T) {
	b := on(t, 60)
	b.lays(has(1, 0), 1)
	b.lays(final(1, 0), 5, 1)
	root := 1
	for range 3 {
		b.want("Live ahead of Start", b.live(), false)
		b.want("Step ahead of Start", b.step(), false)
		b.want("Live behind that", b.live(), false)
		told, ok := b.start(root)
		b.want("Start, Live", of(ok, b.live()), of(true, true))
		root = told[0]
		for !b.step() {
			b.want("Live between", b.live(), true)
		}
		b.want("Live behind the last Step", b.live(), false)
	}
}

// Y2

// rooted is a heap of 60 words with objects at 1, 7, 11, 15 and 19, which take 6, 4, 4, 4 and 4 words.
func rooted(t *testing.T) *both {
	b := on(t, 60)
	b.lays(has(2, 0), 1)
	b.lays(has(0, 1), 7)
	b.lays(weak, 11, 7)
	b.lays(final(1, 0), 15, 1)
	b.lays(has(0, 0), 19)
	b.want("SetNum", b.setNum(7, 0, -9), api.OK)
	return b
}

// TestStartTellsWhereTheRootsAre moves them one behind the other; what is no object's place stays what it is.
func TestStartTellsWhereTheRootsAre(t *testing.T) {
	for _, x := range []struct{ roots, want []int }{
		{nil, nil},
		{[]int{}, nil},
		{[]int{0}, []int{0}},
		{[]int{0, 0, 0}, []int{0, 0, 0}},
		{[]int{1}, []int{61}},
		{[]int{19}, []int{61}},
		{[]int{7, 7}, []int{61, 61}},
		{[]int{7, 0, 7, 1, 7, 0}, []int{61, 0, 61, 65, 61, 0}},
		{[]int{1, 7, 11, 15, 19}, []int{61, 67, 71, 75, 79}},
		{[]int{19, 15, 11, 7, 1}, []int{61, 65, 69, 73, 77}},
		{[]int{11, 1, 19, 11, 1, 19}, []int{61, 65, 71, 61, 65, 71}},
		// No object's first word, or no word at all.
		{[]int{2, 6, 8, 18, 20, 22, 23, 60}, []int{2, 6, 8, 18, 20, 22, 23, 60}},
		{[]int{-1, minInt, maxInt, 1 << 17, 121, 120, 61}, []int{-1, minInt, maxInt, 1 << 17, 121, 120, 61}},
		{[]int{2, 7, -1, 0, 1, 122}, []int{2, 61, -1, 0, 65, 122}},
		// The place to which the first one goes is told of what is not there as it is.
		{[]int{61, 7, 61}, []int{61, 61, 61}},
		{[]int{65, 7, 1, 61, 65}, []int{65, 61, 65, 61, 65}},
	} {
		b := rooted(t)
		told, ok := b.start(x.roots...)
		b.want(fmt.Sprintf("Start(%v)", x.roots), of(told, ok, b.live(), b.h.Moving()), of(x.want, true, true, true))
		b.finishes()
	}
}

// TestStartOfNoObjects has roots of a heap in which there is nothing.
func TestStartOfNoObjects(t *testing.T) {
	for _, roots := range [][]int{nil, {0}, {1}, {17, 1, -1}} {
		b := on(t, 16)
		for range 3 {
			b.want("Start", b.starts(roots...), roots)
			b.want("Steps", b.finishes(), 2)
			b.tells(nil, nil)
			b.want("Room", b.h.Room(), 16)
		}
	}
}

// TestStartMovesTheRootsAlone has what they lead to go with the Steps.
func TestStartMovesTheRootsAlone(t *testing.T) {
	b := rooted(t)
	b.points(1, 19, 11)
	b.want("Start", b.starts(1), []int{61})
	b.serials("behind Start", 1)
	b.steps(1)
	b.serials("behind Step", 1, 5, 3)
	b.want("Room", b.h.Room(), 60-6-4-4-4-4)
	b.finishes()
	b.serials("at the end", 1, 5, 3, 4)
}

// TestStartTurnsToAndFro has each of both spaces in use in its turn.
func TestStartTurnsToAndFro(t *testing.T) {
	b := rooted(t)
	roots := []int{7, 1}
	for _, want := range [][]int{{61, 65}, {1, 5}, {61, 65}, {1, 5}} {
		roots = b.starts(roots...)
		b.want("Start", roots, want)
		b.finishes()
		b.isAt(roots[0], 2)
		b.isAt(roots[1], 1)
		n, e := b.num(roots[0], 0)
		b.want("Num", of(n, e), of(-9, api.OK))
	}
}

// TestStartWhileLive tells nothing and false from each phase, and changes nothing, of whatever roots.
func TestStartWhileLive(t *testing.T) {
	for at := range 6 {
		b := rooted(t)
		b.points(1, 7, 7)
		b.starts(1, 11)
		b.steps(at)
		for _, roots := range [][]int{nil, {}, {0}, {1}, {61}, {67, 61}, {15, 19}, {61, 61, 0}, {-1, maxInt}, {67}} {
			told, ok := b.c.Start(roots)
			b.same(fmt.Sprintf("Start(%v)", roots))
			b.want(fmt.Sprintf("Start(%v) behind %d Steps", roots, at), of(told, ok, b.live()), of([]int{}, false, true))
		}
		// The phase is what it was, too: three are scanned in the first one, and the final in the second one.
		b.steps(5 - at)
		b.ends()
		b.tells([]int{75}, nil)
		b.serials("at the end", 1, 3, 2, 4)
	}
}

// TestStartWhileLiveLeavesWhatIsReady has places that are ready from a collection ahead, and lost serials, while Start is refused.
func TestStartWhileLiveLeavesWhatIsReady(t *testing.T) {
	for at := range 4 {
		b := on(t, 60)
		b.lays(final(0, 1), 1)
		b.lays(weak, 5)
		b.lays(has(0, 0), 9)
		b.points(5, 9)
		root := b.collects(5)[0]
		b.starts(root)
		b.steps(at)
		for _, roots := range [][]int{nil, {0}, {1, 5}, {65, 61}} {
			_, ok := b.start(roots...)
			b.want("Start", ok, false)
		}
		b.tells([]int{5}, []int{2})
		b.isAt(5, 1)
		b.want("Steps", b.finishes(), 4-at)
	}
}

// waiting is a heap of 100 words behind a collection in which the objects of the serials 1 and 3 have come to be ready at 105 and 111, and were not told; 1 leads to 2, at 115, whose number is 42; the root is at 101.
func waiting(t *testing.T) *both {
	b := on(t, 100)
	b.lays(final(1, 1), 1)
	b.lays(has(0, 1), 7)
	b.lays(final(0, 0), 11)
	b.lays(has(0, 0), 15)
	b.points(1, 7)
	b.want("SetNum", b.setNum(7, 0, 42), api.OK)
	b.want("Start", b.starts(15), []int{101})
	b.want("Steps", b.finishes(), 6)
	return b
}

// TestReadyGoAlong has places that are ready, and were not told, go along with the next collection, behind the roots, with what they lead to.
func TestReadyGoAlong(t *testing.T) {
	b := waiting(t)
	b.want("Start", b.starts(101), []int{1})
	b.serials("behind Start", 4, 1, 3)
	b.want("Steps", b.finishes(), 6)
	b.tells([]int{5, 11}, nil)
	b.isAt(5, 1)
	b.isAt(11, 3)
	b.leads(5, 0, 15)
	b.want("Num", of(b.num(15, 0)), of(42, api.OK))
	// Told, they are let go of.
	b.collects(1)
	b.tells(nil, nil)
	b.serials("behind that", 4)
}

// TestReadyGoAlongAgainAndAgain has nobody ask for them in five collections.
func TestReadyGoAlongAgainAndAgain(t *testing.T) {
	b := waiting(t)
	for k := range 5 {
		b.starts()
		b.serials(fmt.Sprintf("in collection %d", k), 1, 3)
		b.want("Steps", b.finishes(), 5)
		b.serials(fmt.Sprintf("behind collection %d", k), 1, 3, 2)
	}
	b.tells([]int{1, 7}, nil)
	b.leads(1, 0, 11)
	b.want("Num", of(b.num(11, 0)), of(42, api.OK))
}

// TestReadyAheadOfStart has them told ahead of the next collection: they don't go along.
func TestReadyAheadOfStart(t *testing.T) {
	b := waiting(t)
	b.tells([]int{105, 111}, nil)
	b.starts(101)
	b.serials("behind Start", 4)
	b.want("Steps", b.finishes(), 3)
	b.tells(nil, nil)
	b.serials("at the end", 4)
}

// TestReadyBehindStart has them told in the next collection, at each of its steps: where they are now.
func TestReadyBehindStart(t *testing.T) {
	for at := range 7 {
		b := waiting(t)
		b.starts(101)
		for range at {
			b.step()
		}
		b.tells([]int{5, 11}, nil)
		b.isAt(5, 1)
		b.leads(5, 0, 15)
		for b.live() {
			b.step()
		}
		b.tells(nil, nil)
		b.serials("at the end", 4, 1, 3, 2)
	}
}

// TestReadyThatIsARootToo has one that is ready, and was not told, come to be a root by way of a weak object.
func TestReadyThatIsARootToo(t *testing.T) {
	b := on(t, 60)
	b.lays(weak, 1)
	b.lays(final(0, 1), 5)
	b.points(1, 5)
	b.collects(1)
	b.leads(61, 0, 65)
	b.want("Start", b.starts(65, 61, 65), []int{1, 5, 1})
	b.serials("behind Start", 2, 1)
	b.finishes()
	b.tells([]int{1}, nil)
	b.leads(5, 0, 1)
}

// TestReadyThatIsChangedGoesAlong sets the pointer of one that is ready, and was not told.
func TestReadyThatIsChangedGoesAlong(t *testing.T) {
	b := waiting(t)
	at := b.lays(has(0, 2), 119)
	b.points(105, at)
	b.want("SetFreed", b.setFreed(111, true), api.OK)
	b.want("SetNum", b.setNum(105, 0, -3), api.OK)
	b.collects()
	b.serials("at the end", 1, 3, 5)
	b.tells([]int{1, 7}, nil)
	b.leads(1, 0, 11)
	b.want("Num", of(b.num(1, 0)), of(-3, api.OK))
	_, freed, _ := b.h.Shape(7)
	b.want("freed", freed, true)
}

// TestWhatIsReadyStaysAheadOfNewOnes has the next collection's behind those that were not told.
func TestWhatIsReadyStaysAheadOfNewOnes(t *testing.T) {
	b := waiting(t)
	b.lays(final(0, 0), 119)
	b.lays(final(0, 2), 123)
	b.collects(101)
	b.serials("at the end", 4, 1, 3, 2, 5, 6)
	b.want("Ready", b.ready(), []int{5, 11, 19, 23})
	b.isAt(19, 5)
	b.isAt(23, 6)
}

// Y3

// TestStepWhenNotLive does nothing ahead of the first Start, and behind the last Step, whatever there were to do.
func TestStepWhenNotLive(t *testing.T) {
	b := on(t, 60)
	idle := func(when string) {
		for range 5 {
			told := b.c.Step()
			b.same("Step " + when)
			b.want("Step, Live, Moving "+when, of(told, b.live(), b.h.Moving()), of(false, false, false))
		}
		b.tells(nil, nil)
	}
	idle("of no objects")
	b.lays(weak, 1)
	b.lays(final(1, 0), 5)
	b.lays(has(0, 0), 9)
	b.points(1, 9)
	b.points(5, 9)
	idle("ahead of the first Start")
	b.collects(1)
	b.tells([]int{65}, nil)
	idle("behind the last Step")
	b.lays(final(0, 0), 73)
	idle("behind the last Step, with another one")
	b.collects(61)
	b.tells([]int{5}, []int{1})
	idle("behind the next one")
}

// TestStepsOfAHeapWithoutObjects are two.
func TestStepsOfAHeapWithoutObjects(t *testing.T) {
	b := on(t, 16)
	for range 4 {
		b.starts()
		b.steps(1)
		b.ends()
		b.want("Step behind that", b.step(), false)
	}
}

// TestStepsOfOneObject are three of a root, also if it leads to itself, is twice a root, is weak; two, if it is none; three, if it is to be finalized: it is scanned in the second phase.
func TestStepsOfOneObject(t *testing.T) {
	for _, x := range []struct {
		shape       api.Shape
		roots, here []int
		steps       int
	}{
		{has(0, 0), []int{1}, []int{1}, 3},
		{has(0, 0), []int{1, 0, 1}, []int{1}, 3},
		{has(8, 1), []int{1}, []int{1}, 3},
		{weak, []int{1}, []int{1}, 3},
		{final(1, 0), []int{1}, []int{1}, 3},
		{has(0, 0), nil, nil, 2},
		{has(1, 8), []int{0, 2}, nil, 2},
		{weak, nil, nil, 2},
		{final(1, 0), nil, []int{1}, 3},
	} {
		b := on(t, 24)
		b.lays(x.shape, 1)
		if x.shape.Ptrs > 0 {
			b.points(1, 1)
		}
		b.starts(x.roots...)
		b.steps(x.steps - 1)
		b.ends()
		b.serials(fmt.Sprintf("of %+v", x.shape), x.here...)
		b.want("Step behind that", b.step(), false)
	}
}

// TestStepsOfAChain are one for each of its objects that one comes to, and two.
func TestStepsOfAChain(t *testing.T) {
	for n := 1; n < 12; n++ {
		for from := range n {
			b := on(t, 100)
			for k := range n {
				b.lays(has(1, 0), 1+4*k, max(0, 4*k-3))
			}
			// From the one at that place of the chain on down to the first one.
			b.want("Start", b.starts(1+4*from), []int{101})
			b.steps(from + 2)
			b.ends()
			b.want("Room", b.h.Room(), 100-4*(from+1))
			for k := range from + 1 {
				b.isAt(101+4*k, from+1-k)
			}
		}
	}
}

// TestStepsWithObjectsThatAreLaidBetween are one more for each of these, in both phases.
func TestStepsWithObjectsThatAreLaidBetween(t *testing.T) {
	b := on(t, 100)
	b.lays(has(1, 0), 1)
	b.want("Start", b.starts(1), []int{101})
	b.lays(has(1, 0), 105, 101)
	b.steps(1)
	b.steps(1)
	b.lays(has(0, 0), 109)
	b.lays(weak, 113, 109)
	b.steps(2)
	b.steps(1) // the first phase's end
	b.lays(has(0, 0), 117)
	b.steps(1)
	b.lays(final(1, 0), 121, 121)
	b.lays(has(0, 0), 125)
	b.steps(2)
	b.ends()
	// What was laid in it is kept, whatever leads to it.
	b.serials("at the end", 1, 2, 3, 4, 5, 6, 7)
	b.tells(nil, nil)
	b.collects(101)
	b.serials("behind the next one", 1, 6)
	b.tells([]int{5}, nil)
}

// TestWhatEachStepDoes tells what is here behind each one, and what is ready and lost, which is not asked for till then.
func TestWhatEachStepDoes(t *testing.T) {
	b := on(t, 100)
	b.lays(has(2, 0), 1)    // 1: the root
	b.lays(has(1, 0), 7)    // 2
	b.lays(weak, 11)        // 3, to 7
	b.lays(final(1, 0), 15) // 4
	b.lays(has(1, 0), 19)   // 5: the final one's
	b.lays(has(1, 0), 23)   // 6: nobody's
	b.lays(has(0, 0), 27)   // 7: that one's
	b.points(1, 7, 11)
	b.points(7, 1)
	b.points(11, 27)
	b.points(15, 19)
	b.points(19, 19)
	b.points(23, 27)
	for _, asked := range []int{9, 8, 7, 6, 5, 4, 3, 2, 1, 0} {
		x := on(t, 100)
		copied(b, x)
		x.starts(1)
		x.serials("behind Start", 1)
		var ready, lost []int
		for k, want := range [][]int{{1, 2, 3}, {1, 2, 3}, {1, 2, 3}, {1, 2, 3, 4}, {1, 2, 3, 4, 5}, {1, 2, 3, 4, 5}, {1, 2, 3, 4, 5}} {
			x.want("Step", x.step(), k == 6)
			x.serials(fmt.Sprintf("behind Step %d", k+1), want...)
			if k == 3 {
				ready = []int{115}
			}
			if k == 6 {
				lost = []int{3}
			}
			if k >= asked {
				x.tells(ready, lost)
				ready, lost = nil, nil
			}
		}
		x.tells(ready, lost)
		x.leads(111, 0, 0)
	}
}

// copied lays in a heap what another one has, which was not collected.
func copied(from, to *both) {
	to.t.Helper()
	var places []int
	for at := range from.words + 1 {
		if s, _, e := from.h.Shape(at); e == api.OK {
			places = append(places, to.lays(s, at))
		}
	}
	for _, at := range places {
		s, _, _ := from.h.Shape(at)
		for i := range s.Ptrs {
			p, _ := from.h.Ptr(at, i)
			to.setPtr(at, i, p)
		}
	}
}

// Y3: what is ready

// TestFinalsAtTheEndOfTheFirstPhase has none ready ahead of that, all at once then, and what they lead to come behind.
func TestFinalsAtTheEndOfTheFirstPhase(t *testing.T) {
	b := on(t, 100)
	b.lays(has(1, 0), 1)    // 1: the root
	b.lays(has(0, 0), 5)    // 2: its own
	b.lays(final(1, 0), 9)  // 3
	b.lays(has(1, 0), 13)   // 4: that one's
	b.lays(has(0, 0), 17)   // 5: that one's
	b.lays(final(1, 0), 21) // 6
	b.points(1, 5)
	b.points(9, 13)
	b.points(13, 17)
	b.points(21, 5)
	b.starts(1)
	b.tells(nil, nil)
	b.steps(1)
	b.tells(nil, nil)
	b.steps(1)
	b.tells(nil, nil)
	b.serials("at the end of the first phase", 1, 2)
	b.steps(1)
	b.serials("behind that end", 1, 2, 3, 6)
	b.tells([]int{109, 113}, nil)
	b.steps(1)
	b.serials("behind Scan of the one", 1, 2, 3, 6, 4)
	b.steps(1)
	b.serials("behind Scan of the other one", 1, 2, 3, 6, 4)
	b.steps(1)
	b.serials("behind Scan of what the one leads to", 1, 2, 3, 6, 4, 5)
	b.steps(1)
	b.ends()
	b.tells(nil, nil)
	b.leads(109, 0, 117)
	b.leads(117, 0, 121)
	b.leads(113, 0, 105)
}

// finals is a heap of 100 words with a root at 1, of two pointers, a weak object at 7, one of three pointers at 11, and two to be finalized at 17 and 21, of the serials 4 and 5.
func finals(t *testing.T) *both {
	b := on(t, 100)
	b.lays(has(2, 0), 1)
	b.lays(weak, 7)
	b.lays(has(3, 0), 11)
	b.lays(final(1, 0), 17)
	b.lays(final(1, 0), 21)
	return b
}

// namesReady holds the serials of what is ready against what is to be.
func (b *both) namesReady(what string, want ...int) []int {
	b.t.Helper()
	places := b.ready()
	var got []int
	for _, at := range places {
		n, e := b.h.Serial(at)
		if e != api.OK {
			b.t.Errorf("%s: nothing is at %d, error %d", what, at, e)
		}
		got = append(got, n)
	}
	b.want(what+": ready are the serials", got, want)
	return places
}

// TestFinalsByWhatLeadsToThem has those to be finalized be roots, and led to by all kinds of objects.
func TestFinalsByWhatLeadsToThem(t *testing.T) {
	for _, x := range []struct {
		what  string
		ptrs  [][]int // an object's place, then its pointers
		roots []int
		want  []int
	}{
		{"nothing leads to them", nil, nil, []int{4, 5}},
		{"nothing leads to them, there are roots", nil, []int{1, 7, 11, 0}, []int{4, 5}},
		{"both are roots", nil, []int{21, 17}, nil},
		{"the one is a root", nil, []int{17}, []int{5}},
		{"the other one is a root, twice", nil, []int{21, 0, 21}, []int{4}},
		{"a root leads to the one", [][]int{{1, 0, 17}}, []int{1}, []int{5}},
		{"a root leads to both", [][]int{{1, 21, 17}}, []int{1}, nil},
		{"roots' roots lead to them", [][]int{{1, 11, 0}, {11, 0, 17, 21}}, []int{1}, nil},
		{"what is no root leads to them", [][]int{{11, 17, 21, 11}}, []int{1}, []int{4, 5}},
		{"the one alone leads to the other one", [][]int{{17, 21}}, []int{1}, []int{4, 5}},
		{"the other one alone leads to the one", [][]int{{21, 17}}, []int{1}, []int{4, 5}},
		{"each leads to the other one", [][]int{{17, 21}, {21, 17}}, []int{1}, []int{4, 5}},
		{"each leads to itself", [][]int{{17, 17}, {21, 21}}, []int{1}, []int{4, 5}},
		{"each leads to a root", [][]int{{17, 1}, {21, 1}}, []int{1}, []int{4, 5}},
		{"one that is a root leads to the other one", [][]int{{17, 21}}, []int{17}, nil},
		{"one that a root leads to leads to the one", [][]int{{1, 21, 0}, {21, 17}}, []int{1}, nil},
		{"a weak root leads to the one", [][]int{{7, 17}}, []int{7}, []int{4, 5}},
		{"a weak one that a root leads to leads to the other one", [][]int{{1, 7, 17}, {7, 21}}, []int{1}, []int{5}},
		{"a weak root leads to what leads to them", [][]int{{7, 11}, {11, 17, 21, 0}}, []int{7}, []int{4, 5}},
		{"a weak root leads to one that is a root", [][]int{{7, 17}}, []int{7, 17}, []int{5}},
		{"the one leads to what leads to the other one", [][]int{{17, 11}, {11, 21, 0, 0}}, nil, []int{4, 5}},
		{"roots that are none", nil, []int{18, 22, -1, maxInt}, []int{4, 5}},
	} {
		b := finals(t)
		for _, l := range x.ptrs {
			b.points(l[0], l[1:]...)
		}
		b.collects(x.roots...)
		b.namesReady(x.what, x.want...)
		b.want("once more", b.ready(), []int{})
		// Nothing is kept behind that: what has not come to be ready does now, once.
		b.collects()
		var others []int
		for _, n := range []int{4, 5} {
			if !slices.Contains(x.want, n) {
				others = append(others, n)
			}
		}
		b.namesReady(x.what+", in the next collection", others...)
		b.collects()
		b.want(x.what+", in the one behind that", b.ready(), []int{})
		b.serials(x.what + ", behind all")
	}
}

// TestWeakOnesStayWithWhatIsReady has a weak object lead to one that comes to be ready: it still does, till that is let go of.
func TestWeakOnesStayWithWhatIsReady(t *testing.T) {
	b := finals(t)
	b.points(7, 17)
	roots := b.collects(7)
	b.want("Ready", b.ready(), []int{105, 109})
	b.want("Lost", b.lost(), []int{})
	b.leads(roots[0], 0, 105)
	roots = b.collects(roots...)
	b.tells(nil, []int{2})
	b.leads(roots[0], 0, 0)
}

// TestFinalsThatAreLetGoOfLater go along as roots, as what a root leads to, and are ready when they are neither.
func TestFinalsThatAreLetGoOfLater(t *testing.T) {
	b := finals(t)
	b.points(1, 21, 0)
	roots := []int{1, 17}
	for range 3 {
		roots = b.collects(roots...)
		b.tells(nil, nil)
	}
	roots = b.collects(roots[0])
	b.namesReady("no root any more", 4)
	roots = b.collects(roots...)
	b.tells(nil, nil)
	b.serials("behind that", 1, 5)
	b.points(roots[0], 0)
	roots = b.collects(roots...)
	b.namesReady("led to no more", 5)
	b.collects(roots...)
	b.tells(nil, nil)
	b.serials("behind that", 1)
}

// TestFinalsThatAreRootsAgain are never ready again, however often they are let go of.
func TestFinalsThatAreRootsAgain(t *testing.T) {
	b := finals(t)
	b.points(17, 21)
	b.points(21, 17)
	root := b.collects(1)[0]
	places := b.namesReady("let go of", 4, 5)
	for range 3 {
		places = b.collects(places[1], root)
		root = places[1]
		b.tells(nil, nil)
		b.serials("with them", 5, 1, 4)
		places = []int{0, places[0]}
	}
	// As what a root leads to, then as nothing of anybody's.
	b.points(root, places[1], 0)
	root = b.collects(root)[0]
	b.tells(nil, nil)
	b.serials("led to", 1, 5, 4)
	b.points(root, 0)
	b.collects(root)
	b.tells(nil, nil)
	b.serials("let go of for good", 1)
}

// TestFinalsThatAreLaidBetween are not ready in that collection, but in the next one.
func TestFinalsThatAreLaidBetween(t *testing.T) {
	for at := range 4 {
		b := on(t, 60)
		b.lays(has(0, 0), 1)
		b.lays(has(0, 0), 5)
		root := b.starts(1)[0]
		for range at {
			b.step()
		}
		b.alloc(final(0, 0))
		for b.live() {
			b.step()
		}
		b.want("Ready", b.ready(), []int{})
		b.collects(root)
		b.namesReady("the next one", 3)
		b.collects(root)
		b.want("Ready", b.ready(), []int{})
	}
}

// TestFinalsThatAreToldOfBetween are come to by way of a weak pointer, between Steps of the first phase: they are not ready in that collection.
func TestFinalsThatAreToldOfBetween(t *testing.T) {
	b := finals(t)
	b.points(7, 17)
	roots := b.starts(7)
	b.leads(roots[0], 0, 105)
	b.steps(2)
	b.want("Ready ahead of the first phase's end", b.ready(), []int{})
	b.finishes()
	b.namesReady("the other one", 5)
	b.collects(roots...)
	b.namesReady("the next one", 4)
}

// TestManyFinalsAtOnce are ready in the order in which they were laid, wherever they are.
func TestManyFinalsAtOnce(t *testing.T) {
	b := on(t, 200)
	for k := range 20 {
		b.lays(final(1, 0), 1+4*k)
	}
	// Each leads to the one that was laid ahead of it.
	for k := 1; k < 20; k++ {
		b.points(1+4*k, 1+4*(k-1))
	}
	roots := b.collects(1+4*15, 1+4*3)
	// The chain from the fifteenth down is kept, in another order by its places.
	b.namesReady("behind the chain", 17, 18, 19, 20)
	b.isAt(roots[0], 16)
	roots = b.collects(roots[1])
	b.namesReady("when it is cut", 5, 6, 7, 8, 9, 10, 11, 12, 13, 14, 15, 16)
	b.collects()
	b.namesReady("when all is let go of", 1, 2, 3, 4)
	b.collects()
	b.namesReady("when there is none")
}

// TestFinalsOfOneThatIsReady has one that was laid later be led to by one that is ready, and was not told: it is ready when the other one was told, and is let go of.
func TestFinalsOfOneThatIsReady(t *testing.T) {
	b := on(t, 60)
	b.lays(final(1, 0), 1)
	b.collects()
	b.lays(final(0, 0), 65)
	b.points(61, 65)
	for _, at := range []int{1, 61, 1} {
		b.collects()
		b.isAt(at, 1)
		b.isAt(at+4, 2)
	}
	b.want("Ready", b.ready(), []int{1})
	b.collects()
	b.namesReady("behind that", 2)
	b.collects()
	b.tells(nil, nil)
}

// Y3: what is lost

// TestLostByWhatWeakOnesLeadTo has a weak object at 1 lead to all kinds of objects, or none.
func TestLostByWhatWeakOnesLeadTo(t *testing.T) {
	for _, x := range []struct {
		what   string
		target int
		roots  []int
		want   []int
		leads  int // where the weak one leads to behind it
	}{
		{"what is let go of", 9, []int{1}, []int{1}, 0},
		{"what is let go of, with other roots", 9, []int{1, 21, 0}, []int{1}, 0},
		{"a root", 9, []int{1, 9}, nil, 105},
		{"a root ahead of it", 9, []int{9, 1}, nil, 101},
		{"what a root leads to", 13, []int{1, 9}, nil, 109},
		{"one to be finalized", 21, []int{1}, nil, 105},
		{"what one to be finalized leads to", 17, []int{1}, nil, 109},
		{"nothing", 0, []int{1}, nil, 0},
		{"itself", 1, []int{1}, nil, 101},
		{"itself, twice a root", 1, []int{1, 1}, nil, 101},
		{"another weak one, which is kept, and lost itself", 5, []int{1, 5}, []int{2}, 105},
		{"another weak one, which is let go of", 5, []int{1}, []int{1}, 0},
		{"what another weak one leads to, too", 25, []int{1, 5}, []int{1, 2}, 0},
		{"what another weak one leads to, which is let go of", 25, []int{1}, []int{1}, 0},
		{"what leads to itself", 29, []int{1}, []int{1}, 0},
		{"what leads to a root", 33, []int{1}, []int{1}, 0},
	} {
		b := on(t, 100)
		b.lays(weak, 1)
		b.lays(weak, 5)
		b.lays(has(1, 0), 9)
		b.lays(has(0, 0), 13)
		b.lays(has(0, 0), 17)
		b.lays(final(1, 0), 21)
		b.lays(has(0, 0), 25)
		b.lays(has(1, 0), 29)
		b.lays(has(1, 0), 33)
		b.points(1, x.target)
		b.points(5, 25)
		b.points(9, 13)
		b.points(21, 17)
		b.points(29, 29)
		b.points(33, 1)
		roots := b.collects(x.roots...)
		b.want(x.what+": Lost", b.lost(), x.want)
		b.want("once more", b.lost(), []int{})
		at := roots[slices.Index(x.roots, 1)]
		b.leads(at, 0, x.leads)
		// What was lost leads to nothing, and is not lost again; all others are, but the one that leads to itself.
		b.ready()
		b.collects(at)
		kept := x.leads == 0 || x.target == 1
		b.want(x.what+": Lost in the next one", len(b.lost()) == 0, kept)
	}
}

// TestWeakOnesThatAreLetGoOf are not lost, whatever they lead to.
func TestWeakOnesThatAreLetGoOf(t *testing.T) {
	b := on(t, 60)
	b.lays(weak, 1)
	b.lays(weak, 5, 1)
	b.lays(has(1, 0), 9)
	b.points(1, 9)
	b.points(9, 5)
	b.collects()
	b.tells(nil, nil)
	b.serials("behind that")
}

// TestWeakOnesOfOneThatIsReady are come to in the second phase, and lost if what they lead to is let go of.
func TestWeakOnesOfOneThatIsReady(t *testing.T) {
	b := on(t, 60)
	b.lays(final(2, 0), 1)
	b.lays(weak, 7)
	b.lays(has(0, 0), 11)
	b.lays(weak, 15, 1)
	b.points(1, 7, 15)
	b.points(7, 11)
	b.collects()
	b.tells([]int{61}, []int{2})
	b.leads(61, 0, 67)
	b.leads(67, 0, 0)
	b.leads(61, 1, 71)
	b.leads(71, 0, 61)
}

// TestLostInTheOrderOfTheList tells them in the order in which they were laid, in whatever order they are moved.
func TestLostInTheOrderOfTheList(t *testing.T) {
	b := on(t, 100)
	for k := range 6 {
		b.lays(weak, 1+4*k)
	}
	b.lays(has(0, 0), 25)
	b.lays(has(0, 0), 29)
	for k := range 6 {
		b.points(1+4*k, 25+4*(k%2))
	}
	roots := b.collects(21, 9, 29, 17, 1, 13, 5)
	b.want("Lost", b.lost(), []int{1, 3, 5})
	// All places but the root's are in the order of the roots now: the list's is as it was.
	b.collects(slices.Concat(roots[:2], roots[3:])...)
	b.want("Lost in the next one", b.lost(), []int{2, 4, 6})
}

// TestLostBehindThoseThatWereNotTold keeps those of collections ahead, in their order.
func TestLostBehindThoseThatWereNotTold(t *testing.T) {
	b := on(t, 100)
	b.lays(weak, 1)
	b.lays(weak, 5)
	b.lays(weak, 9)
	b.lays(weak, 13)
	b.lays(has(0, 0), 17)
	b.points(13, 17)
	b.points(5, 17)
	roots := b.collects(1, 5, 9, 13)
	at := b.lays(has(0, 0), 117)
	b.points(roots[2], at)
	b.points(roots[0], at)
	roots = b.collects(roots...)
	roots = b.collects(roots...)
	at = b.lays(has(0, 0), 117)
	b.points(roots[1], at)
	roots = b.collects(roots...)
	b.want("Lost", b.lost(), []int{2, 4, 1, 3, 2})
	b.collects(roots...)
	b.want("Lost once more", b.lost(), []int{})
}

// Y4

// TestToldOnce asks twice at each step of two collections: the second time there is none.
func TestToldOnce(t *testing.T) {
	b := finals(t)
	b.points(7, 11)
	roots := []int{7, 0}
	ready, lost := 0, 0
	ask := func() {
		ready += len(b.ready())
		lost += len(b.lost())
		b.tells(nil, nil)
	}
	for range 3 {
		ask()
		roots = b.starts(roots...)
		ask()
		for b.live() {
			b.step()
			ask()
		}
	}
	b.want("what was told", of(ready, lost), of(2, 1))
}

// TestReadyAndLostApart tells the one, and leaves the other.
func TestReadyAndLostApart(t *testing.T) {
	for _, first := range []bool{true, false} {
		b := finals(t)
		b.points(7, 11)
		roots := b.collects(7)
		if first {
			b.want("Ready", b.ready(), []int{105, 109})
			b.want("Ready once more", b.ready(), []int{})
			b.want("Lost", b.lost(), []int{2})
			continue
		}
		b.want("Lost", b.lost(), []int{2})
		b.want("Lost once more", b.lost(), []int{})
		b.collects(roots...)
		b.want("Lost in the next one", b.lost(), []int{})
		b.want("Ready", b.ready(), []int{5, 9})
		b.want("Lost", b.lost(), []int{})
	}
}

// TestToldBetweenThePhases tells what is ready as soon as it is; what is told is let go of in the next collection, unless it is a root there.
func TestToldBetweenThePhases(t *testing.T) {
	b := finals(t)
	b.points(17, 11)
	b.points(7, 21)
	roots := b.starts(7)
	b.steps(2)
	b.want("Ready", b.ready(), []int{105, 109})
	b.want("Lost", b.lost(), []int{})
	// What it leads to comes still.
	b.leads(105, 0, 113)
	b.steps(3)
	b.ends()
	b.tells(nil, nil)
	roots = b.collects(roots[0], 105)
	b.tells(nil, []int{2})
	b.serials("at the end", 2, 4, 3)
	b.collects(roots[0])
	b.tells(nil, nil)
	b.serials("behind that", 2)
}

// TestLostToldInTheNextCollection tells those of the one ahead till the next one's end.
func TestLostToldInTheNextCollection(t *testing.T) {
	for at := range 3 {
		b := on(t, 60)
		b.lays(weak, 1)
		b.lays(weak, 5)
		b.lays(has(0, 0), 9)
		b.points(1, 9)
		b.points(5, 9)
		roots := b.collects(5, 1)
		b.points(roots[0], b.lays(has(0, 0), 69))
		roots = b.starts(roots...)
		b.steps(at)
		b.want("Lost", b.lost(), []int{1, 2})
		b.finishes()
		b.want("Lost in the next one", b.lost(), []int{2})
		b.leads(roots[0], 0, 0)
	}
}

// What is done between

// TestObjectsAreChangedBetween lays objects, sets pointers and numbers, and frees objects ahead of each Step, of both phases: nothing of it is forgotten.
func TestObjectsAreChangedBetween(t *testing.T) {
	for at := range 8 {
		b := on(t, 200)
		b.lays(has(2, 1), 1)    // 1: the root
		b.lays(has(1, 1), 7)    // 2
		b.lays(weak, 13)        // 3
		b.lays(final(1, 1), 17) // 4
		b.lays(has(0, 1), 23)   // 5: the final one's
		b.points(1, 7, 13)
		b.points(7, 1)
		b.points(13, 7)
		b.points(17, 23)
		b.want("SetNum", b.setNum(23, 0, -7), api.OK)
		root := b.starts(1)[0]
		for range at {
			b.step()
		}
		n, e := b.alloc(has(1, 1))
		b.want("Alloc", e, api.OK)
		two, _ := b.ptr(root, 0)
		three, _ := b.ptr(root, 1)
		// The chain is now: 1, 6, 2, 3, 6.
		b.points(n, two)
		b.points(root, n, 0)
		b.points(two, three)
		b.points(three, n)
		b.want("SetNum", of(b.setNum(root, 0, 10), b.setNum(two, 0, 11), b.setNum(n, 0, 12)), of(api.OK, api.OK, api.OK))
		b.want("SetFreed", b.setFreed(two, true), api.OK)
		b.want("SetSecond", b.setSecond(two, 15), api.OK)
		for b.live() {
			b.step()
		}
		nodes := []api.Node{
			{Serial: 1, Shape: has(2, 1), Ptrs: []int{1, -1}, Nums: []int{10}},
			{Serial: 6, Shape: has(1, 1), Ptrs: []int{2}, Nums: []int{12}},
			{Serial: 2, Shape: has(1, 1), Freed: true, Ptrs: []int{3}, Nums: []int{11}},
			{Serial: 3, Shape: weak, Ptrs: []int{1}},
		}
		seen := func() {
			b.t.Helper()
			got, _, e := b.h.Canon([]int{root})
			b.want(fmt.Sprintf("Canon behind %d Steps", at), of(got, e), of(nodes, api.OK))
			w, _ := b.h.Second(two)
			b.want("Second", w, 15)
		}
		seen()
		places := b.namesReady("behind it", 4)
		p, _ := b.ptr(places[0], 0)
		b.want("Num", of(b.num(p, 0)), of(-7, api.OK))
		root = b.collects(root)[0]
		six, _ := b.ptr(root, 0)
		two, _ = b.ptr(six, 0)
		seen()
	}
}

// TestPointersAreToldBetween reads down a chain ahead of the Steps: what is told is here, and stays.
func TestPointersAreToldBetween(t *testing.T) {
	b := on(t, 100)
	for k := range 6 {
		b.lays(has(1, 0), 1+4*k, max(0, 4*k-3))
	}
	root := b.starts(21)[0]
	at := root
	for k := range 5 {
		b.leads(at, 0, 105+4*k)
		at = 105 + 4*k
		b.isAt(at, 5-k)
	}
	// The pointer to the rest is cut: what was told, and is nobody's, is kept to the end.
	b.points(root, 0)
	b.steps(7)
	b.ends()
	b.serials("at the end", 6, 5, 4, 3, 2, 1)
	b.collects(root)
	b.serials("behind the next one", 6)
}

// TestPointersThatAreCutBetween let go of what nobody has come to by then.
func TestPointersThatAreCutBetween(t *testing.T) {
	b := on(t, 100)
	b.lays(has(1, 0), 1)
	b.lays(has(1, 0), 5)
	b.lays(final(0, 0), 9)
	b.points(1, 5)
	b.points(5, 9)
	root := b.starts(1)[0]
	b.steps(1)
	b.leads(root, 0, 105)
	// The second object is here, and not scanned yet; the third one is not here.
	b.points(105, 0)
	b.steps(1)
	b.want("Ready ahead of the first phase's end", b.ready(), []int{})
	b.steps(1)
	b.namesReady("cut off", 3)
	b.finishes()
	b.serials("at the end", 1, 2, 3)
}

// A heap that is full

// TestFullHeap has no word left: all of it is kept, step by step, and nothing may be laid meanwhile.
func TestFullHeap(t *testing.T) {
	b := on(t, 16)
	b.lays(has(1, 0), 1)
	b.lays(final(1, 0), 5, 1)
	b.lays(has(1, 0), 9, 5)
	b.lays(weak, 13, 9)
	b.points(1, 13)
	b.points(9, 5)
	full := func() {
		b.want("Alloc of a full heap", of(b.alloc(has(0, 0))), of(0, api.ErrMemory))
		b.want("Room", b.h.Room(), 0)
	}
	roots := []int{9, 1}
	for range 3 {
		full()
		roots = b.starts(roots...)
		full()
		for range 5 {
			b.steps(1)
			full()
		}
		b.ends()
		b.tells(nil, nil)
	}
	full()
	b.isAt(roots[0], 3)
	b.isAt(roots[1], 1)
	// Without roots the final one stays, and leads to the first one, and that to the weak one; the third one doesn't.
	b.starts()
	b.want("Steps", b.finishes(), 5)
	b.tells([]int{1}, []int{4})
	b.want("Room", b.h.Room(), 4)
	b.collects()
	b.want("Room", b.h.Room(), 16)
}

// TestFullOfWhatIsLetGoOf has no word left till the end, and all words then.
func TestFullOfWhatIsLetGoOf(t *testing.T) {
	b := on(t, 40)
	for k := range 10 {
		b.lays(has(1, 0), 1+4*k, 1+4*k)
	}
	b.starts()
	b.want("Alloc", of(b.alloc(has(0, 0))), of(0, api.ErrMemory))
	b.steps(1)
	b.want("Alloc", of(b.alloc(has(0, 0))), of(0, api.ErrMemory))
	b.ends()
	b.want("Room", b.h.Room(), 40)
	b.lays(has(0, 0), 41)
}

// TestFullOfFinals has all of them move at once, at the first phase's end.
func TestFullOfFinals(t *testing.T) {
	b := on(t, 40)
	for k := range 10 {
		b.lays(final(1, 0), 1+4*k, 1)
	}
	b.starts()
	b.steps(11)
	b.ends()
	b.namesReady("all", 1, 2, 3, 4, 5, 6, 7, 8, 9, 10)
	b.want("Room", b.h.Room(), 0)
	b.collects()
	b.tells(nil, nil)
	b.want("Room", b.h.Room(), 40)
}

// TestGreatestHeap is one of as many words as may be, full of one chain; then of nothing but finals.
func TestGreatestHeap(t *testing.T) {
	h, _ := heap.New(16384)
	c := New(h)
	last := 0
	for k := range 4096 {
		at, e := h.Alloc(final(1, 0))
		if e != api.OK || h.SetPtr(at, 0, last) != api.OK {
			t.Fatalf("Alloc %d: error %d", k, e)
		}
		last = at
	}
	for _, x := range []struct {
		roots        []int
		ready, steps int
	}{{[]int{last}, 0, 4098}, {nil, 4096, 4098}, {nil, 0, 2}} {
		if len(x.roots) > 0 {
			told, ok := c.Start(x.roots)
			if !ok || len(told) != 1 || told[0] != 16385 {
				t.Fatalf("Start: %v, %v", told, ok)
			}
		} else {
			c.Start(nil)
		}
		n := 1
		for !c.Step() {
			n++
		}
		if ready := len(c.Ready()); n != x.steps || ready != x.ready || len(c.Lost()) != 0 {
			t.Errorf("%d Steps, %d ready, not %d and %d", n, ready, x.steps, x.ready)
		}
	}
	if h.Room() != 16384 {
		t.Errorf("Room is %d", h.Room())
	}
}

// What nobody else is to call

// TestFlippedByOthers begins all the same: whether Flip told true is not asked.
func TestFlippedByOthers(t *testing.T) {
	b := rooted(t)
	b.want("Flip", of(b.h.Flip(), b.r.h.Flip()), of(true, true))
	b.looks()
	b.want("Step", of(b.step(), b.live()), of(false, false))
	b.want("Start", b.starts(7, 1), []int{61, 65})
	b.want("Start once more", of(b.start(61)), of([]int{}, false))
	b.steps(4)
	b.ends()
	b.tells([]int{71}, nil)
	b.serials("at the end", 2, 1, 4)
}

// TestDroppedByOthers ends all the same, from each phase: whether Drop told true is not asked.
func TestDroppedByOthers(t *testing.T) {
	for _, x := range []struct {
		at, more int
		ready    []int
	}{{2, 1, nil}, {5, 0, []int{69}}} {
		b := rooted(t)
		b.points(11, 19)
		b.starts(7, 11)
		b.steps(x.at)
		serials, ok := b.h.Drop()
		others, is := b.r.h.Drop()
		b.want("Drop", of(serials, ok, others, is), of([]int{3}, true, []int{3}, true))
		b.looks()
		b.want("Live", b.live(), true)
		b.steps(x.more)
		b.ends()
		b.tells(x.ready, nil)
		b.want("Start", b.starts(61), []int{1})
		b.finishes()
		b.serials("at the end", 2)
	}
}

// Y5

// thing is an object by itself, wherever it lies: what it leads to it leads to.
type thing struct {
	serial int
	shape  api.Shape
	freed  bool
	ptrs   []*thing
	nums   []int
	// at is where it is to be; told is that it was ready once.
	at   int
	told bool
}

// world is things in the order in which they were laid.
type world struct {
	words, base int
	things      []*thing
}

// come is what one comes to from some, each once, by the way of the strong pointers.
func come(order []*thing) []*thing {
	var l []*thing
	add := func(x *thing) {
		if x != nil && !slices.Contains(l, x) {
			l = append(l, x)
		}
	}
	for _, x := range order {
		add(x)
	}
	for k := 0; k < len(l); k++ {
		for _, y := range l[k].ptrs {
			if !l[k].shape.Weak {
				add(y)
			}
		}
	}
	return l
}

// collect is a collection of the whole: how many are kept, which are ready now, and whose serials are lost.
func (w *world) collect(roots []*thing) (kept int, ready []*thing, lost []int) {
	order := come(roots)
	for _, x := range w.things {
		if x.shape.Final && !x.told && !slices.Contains(order, x) {
			x.told = true
			ready = append(ready, x)
		}
	}
	// Behind all that the roots come to.
	order = come(append(order, ready...))
	w.base = w.words + 2 - w.base
	at := w.base
	for _, x := range order {
		x.at = at
		at += takes(x.shape)
	}
	var rest []*thing
	for _, x := range w.things {
		if !slices.Contains(order, x) {
			continue
		}
		rest = append(rest, x)
		if x.shape.Weak && x.ptrs[0] != nil && !slices.Contains(order, x.ptrs[0]) {
			x.ptrs[0] = nil
			lost = append(lost, x.serial)
		}
	}
	w.things = rest
	return len(order), ready, lost
}

// nodes is what a heap's Canon of roots is to be.
func nodesOf(roots []*thing) []api.Node {
	order := come(roots)
	var l []api.Node
	for _, x := range order {
		n := api.Node{Serial: x.serial, Shape: x.shape, Freed: x.freed, Nums: x.nums}
		for _, y := range x.ptrs {
			seat := -1
			if y != nil {
				if seat = slices.Index(order, y); seat < 0 {
					seat = -2
				}
			}
			n.Ptrs = append(n.Ptrs, seat)
		}
		l = append(l, n)
	}
	return l
}

// places are where some things are to be; 0 of none.
func places(l []*thing) []int {
	var got []int
	for _, x := range l {
		at := 0
		if x != nil {
			at = x.at
		}
		got = append(got, at)
	}
	return got
}

// grow lays things of chance, with fields of chance, in a heap and in the world.
func (w *world) grow(t *testing.T, h *heap.Heap, pick func(int) int, n, serial int) int {
	t.Helper()
	for range n {
		s := []api.Shape{weak, weak, has(pick(4), pick(3)), final(pick(3), pick(2)), has(2, 0)}[pick(5)]
		at, e := h.Alloc(s)
		if e != api.OK {
			break
		}
		serial++
		w.things = append(w.things, &thing{serial: serial, shape: s, ptrs: make([]*thing, s.Ptrs), nums: make([]int, s.Data), at: at})
	}
	for _, x := range w.things {
		for i := range x.ptrs {
			y := append(slices.Clone(w.things), nil)[pick(len(w.things)+1)]
			x.ptrs[i] = y
			h.SetPtr(x.at, i, places([]*thing{y})[0])
		}
		for i := range x.nums {
			x.nums[i] = pick(200) - 100
			h.SetNum(x.at, i, x.nums[i])
		}
		x.freed = pick(9) == 0
		h.SetFreed(x.at, x.freed)
	}
	return serial
}

// TestNothingBetween holds collections of what chance lays against things by themselves: where each is, how many Steps there are, what is ready and lost, and, at each Step, what one comes to from the roots.
func TestNothingBetween(t *testing.T) {
	sum := struct{ ready, lost, kept, waited int }{}
	for start := range 400 {
		pick := chance(start)
		words := 60 + pick(150)
		h, _ := heap.New(words)
		c := New(h)
		w := &world{words: words, base: 1}
		var waits []*thing // ready, and not told
		var gone []int     // lost, and not told
		serial := 0
		for turn := range 5 {
			serial = w.grow(t, h, pick, 2+pick(12), serial)
			var roots []*thing
			for range pick(4) {
				roots = append(roots, append(slices.Clone(w.things), nil)[pick(len(w.things)+1)])
			}
			nodes := fmt.Sprint(nodesOf(roots))
			told, ok := c.Start(places(roots))
			kept, ready, lost := w.collect(append(slices.Clone(roots), waits...))
			sum.ready, sum.lost, sum.kept = sum.ready+len(ready), sum.lost+len(lost), sum.kept+kept
			what := fmt.Sprintf("from %d on, in collection %d", start, turn)
			if fmt.Sprint(told, ok) != fmt.Sprint(places(roots), true) {
				t.Fatalf("%s: Start tells %v, %v, not %v", what, told, ok, places(roots))
			}
			for k := 1; k < kept+2; k++ {
				if c.Step() || !c.Live() {
					t.Fatalf("%s: the end at Step %d, not %d", what, k, kept+2)
				}
				if got, _, e := h.Canon(told); e != api.OK || fmt.Sprint(got) != nodes {
					t.Fatalf("%s: Canon at Step %d is %v, error %d, not %s", what, k, got, e, nodes)
				}
			}
			if !c.Step() || c.Live() {
				t.Fatalf("%s: no end at Step %d", what, kept+2)
			}
			var all []*thing
			for _, x := range w.things {
				all = append(all, x)
			}
			if got, _, e := h.Canon(places(all)); e != api.OK || fmt.Sprint(got) != fmt.Sprint(nodesOf(all)) {
				t.Fatalf("%s: Canon of all is %v, error %d, not %v", what, got, e, nodesOf(all))
			}
			if got, _, e := h.Canon(told); e != api.OK || fmt.Sprint(got) != fmt.Sprint(nodesOf(roots)) {
				t.Fatalf("%s: Canon of the roots is %v, error %d, not %v", what, got, e, nodesOf(roots))
			}
			waits, gone = append(waits, ready...), append(gone, lost...)
			if pick(2) == 0 {
				if l := c.Ready(); !slices.Equal(l, places(waits)) {
					t.Fatalf("%s: ready are %v, not %v", what, l, places(waits))
				}
				waits = nil
			} else if len(waits) > 0 {
				sum.waited++
			}
			if pick(2) == 0 {
				if l := c.Lost(); !slices.Equal(l, gone) {
					t.Fatalf("%s: lost are %v, not %v", what, l, gone)
				}
				gone = nil
			}
		}
	}
	if sum.ready < 1000 || sum.lost < 500 || sum.kept < 5000 || sum.waited < 500 {
		t.Errorf("too little was there: %+v", sum)
	}
}

// anyPlace is a place of chance: mostly one where an object is.
func anyPlace(b *both, pick func(int) int) int {
	var here []int
	for at := range 2*b.words + 1 {
		if b.h.Here(at) {
			here = append(here, at)
		}
	}
	switch {
	case len(here) == 0 || pick(15) == 0:
		return pick(2*b.words+6) - 3
	case pick(12) == 0:
		return 0
	}
	return here[pick(len(here))]
}

// anyCall is one call of chance, on both.
func anyCall(b *both, pick func(int) int) {
	at, p := anyPlace(b, pick), anyPlace(b, pick)
	i, n := pick(3), pick(2000)-1000
	switch pick(18) {
	case 0, 1, 2:
		b.alloc([]api.Shape{weak, has(pick(3), pick(3)), final(pick(3), pick(2)), has(pick(10)-1, pick(10))}[pick(4)])
	case 3:
		b.ptr(at, i)
	case 4, 5, 6:
		b.setPtr(at, i, p)
	case 7:
		b.setNum(at, i, n)
		b.num(at, i)
	case 8:
		b.setFreed(at, n > 0)
	case 9:
		b.setSecond(at, uint64(n))
	case 10, 11:
		b.start([][]int{nil, {at}, {at, p}, {p, 0, at, p}, {p, at, anyPlace(b, pick), anyPlace(b, pick)}}[pick(5)]...)
	case 12, 13, 14, 15:
		b.step()
	case 16:
		if pick(3) == 0 {
			b.ready()
		}
	case 17:
		if pick(3) == 0 {
			b.lost()
		}
	}
}

// TestAnyCalls holds all calls of chance against the rules.
func TestAnyCalls(t *testing.T) {
	for start := range 80 {
		pick := chance(start)
		b := on(t, 16+pick(70))
		for range 250 {
			anyCall(b, pick)
		}
		b.ready()
		b.lost()
	}
}

// shadows is two heaps on which the same is done: the one is collected by a cycle, the other one never, so that it needs more room. Objects are known by where they are in two lists of roots.
type shadows struct {
	t              *testing.T
	c              *Cycle
	a, b           *heap.Heap
	rootsA, rootsB []int
	// weaks is whether roots come by weak pointers, too; late is whether what is ready is asked for now and then alone.
	weaks, late bool
	// places are where each serial is in the heap that is never collected; finals are the serials of those to be finalized, which were not ready; steps is how many there were since Start.
	places map[int]int
	finals []int
	// due are those of the finals that nobody came to when this collection began.
	due          []int
	steps, ended int
	ready, lost  int
}

// alloc lays an object in both, if the one that is collected has room, as a root.
func (s *shadows) alloc(shape api.Shape, root int) {
	s.t.Helper()
	at, e := s.a.Alloc(shape)
	if e != api.OK {
		return
	}
	other, e := s.b.Alloc(shape)
	if e != api.OK {
		s.t.Fatalf("Alloc(%+v), never collected: error %d", shape, e)
	}
	// Serials go on alike.
	n, _ := s.a.Serial(at)
	if is, _ := s.b.Serial(other); n != is {
		s.t.Fatalf("serial %d, not %d", n, is)
	}
	s.places[n] = other
	if shape.Final {
		s.finals = append(s.finals, n)
	}
	s.rootsA[root], s.rootsB[root] = at, other
}

// load makes one root what another one's pointer leads to: the errors.
func (s *shadows) load(from, to, i int) (one, other api.Errno) {
	if shape, _, _ := s.b.Shape(s.rootsB[from]); shape.Weak && !s.weaks {
		return api.OK, api.OK
	}
	p, e := s.a.Ptr(s.rootsA[from], i)
	q, is := s.b.Ptr(s.rootsB[from], i)
	if e == api.OK {
		s.rootsA[to], s.rootsB[to] = p, q
	}
	return e, is
}

// mutate does one thing of chance to both, by way of the roots.
func (s *shadows) mutate(pick func(int) int) {
	s.t.Helper()
	from, to := pick(len(s.rootsA)), pick(len(s.rootsA))
	i, n := pick(2), pick(2000)-1000
	var one, other api.Errno
	switch pick(11) {
	case 0, 9, 10:
		s.alloc([]api.Shape{weak, weak, has(pick(4), pick(3)), final(pick(3), pick(3)), final(2, 0)}[pick(5)], from)
	case 1, 2:
		one, other = s.load(from, to, i)
	case 3, 4, 5:
		one = s.a.SetPtr(s.rootsA[from], i, s.rootsA[to])
		other = s.b.SetPtr(s.rootsB[from], i, s.rootsB[to])
	case 6:
		one = s.a.SetNum(s.rootsA[from], i, n)
		other = s.b.SetNum(s.rootsB[from], i, n)
	case 7:
		one = s.a.SetFreed(s.rootsA[from], n > 0)
		other = s.b.SetFreed(s.rootsB[from], n > 0)
	case 8:
		// What is no root any more is led to by a weak one alone, maybe.
		from = s.weakRoot(from)
		one = s.a.SetPtr(s.rootsA[from], 0, s.rootsA[to])
		other = s.b.SetPtr(s.rootsB[from], 0, s.rootsB[to])
		s.rootsA[to], s.rootsB[to] = 0, 0
	}
	if one != other {
		s.t.Fatalf("error %d, not %d", one, other)
	}
}

// weakRoot is the first root that is weak; another one, if there is none.
func (s *shadows) weakRoot(other int) int {
	for k, at := range s.rootsB {
		if shape, _, _ := s.b.Shape(at); shape.Weak {
			return k
		}
	}
	return other
}

// serials are those that one comes to in the heap that is never collected.
func (s *shadows) serials() []int {
	s.t.Helper()
	nodes, _, e := s.b.Canon(s.rootsB)
	if e != api.OK {
		s.t.Fatalf("Canon: error %d", e)
	}
	var l []int
	for _, n := range nodes {
		l = append(l, n.Serial)
	}
	return l
}

// same holds what one comes to from the roots in both heaps against one another.
func (s *shadows) same(behind string) {
	s.t.Helper()
	one, seatsOne, e := s.a.Canon(s.rootsA)
	other, seatsOther, is := s.b.Canon(s.rootsB)
	if fmt.Sprint(one, seatsOne, e) != fmt.Sprint(other, seatsOther, is) || e != api.OK {
		s.t.Fatalf("behind %s: Canon is %+v, %v, error %d, not %+v, %v, error %d", behind, one, seatsOne, e, other, seatsOther, is)
	}
}

// begin starts a collection.
func (s *shadows) begin() {
	s.t.Helper()
	told, ok := s.c.Start(s.rootsA)
	if !ok {
		s.t.Fatal("Start is false")
	}
	s.rootsA = told
	s.steps = 0
	s.due = nil
	kept := s.serials()
	for _, n := range s.finals {
		if !slices.Contains(kept, n) {
			s.due = append(s.due, n)
		}
	}
}

// goOn is a Step.
func (s *shadows) goOn(asks bool) {
	s.t.Helper()
	is := s.c.Step()
	s.steps++
	if asks || !s.late {
		s.tellReady()
	}
	s.tellLost()
	if is {
		s.end()
	}
}

// tellReady has what is ready be roots from now on, till others take their places: it was not ready ahead of that, and nobody came to it, unless by a weak one, since it was.
func (s *shadows) tellReady() {
	s.t.Helper()
	kept := s.serials()
	for _, at := range s.c.Ready() {
		n, e := s.a.Serial(at)
		k := slices.Index(s.finals, n)
		if e != api.OK || k < 0 || slices.Contains(kept, n) && !(s.late && s.weaks) {
			s.t.Fatalf("ready is %d, the serial %d, error %d; come to are %v, and not ready were %v", at, n, e, kept, s.finals)
		}
		s.finals = slices.Delete(s.finals, k, k+1)
		s.due = slices.DeleteFunc(s.due, func(is int) bool { return is == n })
		s.ready++
		s.rootsA[n%len(s.rootsA)], s.rootsB[n%len(s.rootsB)] = at, s.places[n]
	}
}

// tellLost makes the weak ones that are lost lead to nothing in the other heap, too: nobody came to what they led to.
func (s *shadows) tellLost() {
	s.t.Helper()
	kept := s.serials()
	for _, n := range s.c.Lost() {
		p, e := s.b.Ptr(s.places[n], 0)
		target, _ := s.b.Serial(p)
		if e != api.OK || target == 0 || slices.Contains(kept, target) {
			s.t.Fatalf("the serial %d is lost, which leads to %d; come to are %v", n, target, kept)
		}
		s.b.SetPtr(s.places[n], 0, 0)
		s.lost++
	}
}

// end is what is to be behind the last Step: each object that is here took one, and what nobody came to was ready, unless a weak one, or one that is ready and was not told, has led to it.
func (s *shadows) end() {
	s.t.Helper()
	s.ended++
	here := 0
	for at := range 1000 {
		if s.a.Here(at) {
			here++
		}
	}
	if s.steps != here+2 {
		s.t.Fatalf("%d Steps, with %d objects at the end", s.steps, here)
	}
	if len(s.due) > 0 && !s.weaks && !s.late {
		s.t.Fatalf("not ready are %v, which nobody came to", s.due)
	}
}

// TestCollectedOrNot has many collections, with anything done between their steps: what one comes to is as it is in a heap without them.
func TestCollectedOrNot(t *testing.T) {
	ended, ready, lost := 0, 0, 0
	for start := range 200 {
		pick := chance(start)
		s := &shadows{t: t, weaks: start%2 == 0, late: start%3 == 0, rootsA: make([]int, 7), rootsB: make([]int, 7), places: make(map[int]int)}
		s.a, _ = heap.New(60 + pick(100))
		s.b, _ = heap.New(700)
		s.c = New(s.a)
		for range 300 {
			behind := "what was done"
			switch {
			case pick(2) > 0, !s.c.Live() && pick(5) > 0:
				s.mutate(pick)
			case s.c.Live():
				behind = "Step"
				s.goOn(pick(12) == 0)
			default:
				behind = "Start"
				s.begin()
			}
			s.same(behind)
		}
		ended, ready, lost = ended+s.ended, ready+s.ready, lost+s.lost
	}
	if ended < 1000 || ready < 1000 || lost < 100 {
		t.Errorf("%d collections came to their end, %d were ready, %d lost", ended, ready, lost)
	}
}

// R3

// TestRootsAreNotKeptOrWritten hands in lists with spare room, and writes into them later.
func TestRootsAreNotKeptOrWritten(t *testing.T) {
	b := rooted(t)
	spare := []int{7, 0, 1, 7, 70, 71, 72, 73}
	want := slices.Clone(spare)
	told, ok := b.c.Start(spare[:4])
	is, _ := b.r.start(want[:4])
	b.want("Start", of(told, ok, is), of([]int{61, 0, 65, 61}, true, []int{61, 0, 65, 61}))
	b.want("the roots", spare, want)
	b.looks()
	for i := range spare {
		spare[i] = 99
	}
	b.want("what was told", told, []int{61, 0, 65, 61})
	spoil(told)
	b.want("the roots", spare, slices.Repeat([]int{99}, 8))
	b.want("a Start that is refused", of(b.c.Start(spare[:3])), of([]int{}, false))
	b.want("the roots", spare, slices.Repeat([]int{99}, 8))
	b.steps(4)
	b.ends()
	b.tells([]int{71}, nil)
	// All nothing: what is told is new memory all the same.
	nothing := make([]int, 3, 9)
	told, _ = b.c.Start(nothing)
	spoil(told)
	b.want("the roots", nothing[:9], make([]int, 9))
}

// TestWhatIsToldIsNewMemory spoils what is told, and asks what is told behind that.
func TestWhatIsToldIsNewMemory(t *testing.T) {
	b := on(t, 100)
	for k := range 3 {
		b.lays(final(1, 0), 1+12*k)
		b.lays(weak, 5+12*k)
		b.lays(has(0, 0), 9+12*k)
		b.points(5+12*k, 9+12*k)
	}
	roots := b.collects(5, 17, 25, 29)
	spoil(b.c.Lost())
	b.r.lost = nil
	b.want("Lost", b.lost(), []int{})
	// What is ready stays, while the list of the roots is spoiled.
	first := slices.Clone(roots)
	spoil(roots)
	told := b.starts(first...)
	again := slices.Clone(told)
	spoil(told)
	b.finishes()
	ready := b.ready()
	b.want("Ready", ready, []int{17, 21})
	b.isAt(17, 1)
	b.isAt(21, 4)
	spoil(ready)
	b.want("Ready once more", b.ready(), []int{})
	spoil(ready)
	b.points(again[0], b.lays(has(0, 0), 25))
	last := b.collects(again[:2]...)
	b.want("Ready", b.ready(), []int{109})
	b.isAt(109, 7)
	b.want("Lost", b.lost(), []int{2})
	b.collects(last...)
	b.tells(nil, nil)
}

// TestAnswersDoNotFollow has collections go on behind an answer: it stays; and two answers share nothing.
func TestAnswersDoNotFollow(t *testing.T) {
	b := waiting(t)
	b.lays(weak, 119)
	b.lays(has(0, 0), 123)
	b.points(119, 123)
	told := b.starts(101, 119)
	b.finishes()
	ready, lost := b.ready(), b.lost()
	others := of(b.ready(), b.lost())
	b.lays(final(0, 0), 23)
	b.collects(told...)
	b.collects(101, 105)
	b.want("what was told", of(told, ready, lost, others), of([]int{1, 5}, []int{9, 15}, []int{5}, of([]int{}, []int{})))
	spoil(ready)
	b.want("what was told", of(told, lost), of([]int{1, 5}, []int{5}))
	b.want("Ready", b.ready(), []int{9})
}

// TestReadyThatWereToldDoNotFollow has more come to be ready behind an answer, in the same collection and in later ones, and the answers be spoiled ahead of the next ones.
func TestReadyThatWereToldDoNotFollow(t *testing.T) {
	b := waiting(t)
	b.lays(final(0, 0), 119)
	b.lays(final(0, 1), 123)
	b.starts(101)
	one := b.ready()
	b.steps(4)
	b.lays(final(0, 0), 19)
	b.finishes()
	b.want("Ready, told in the first phase", one, []int{5, 11})
	spoil(one)
	two := b.ready()
	b.want("Ready behind that", two, []int{23, 27})
	b.collects()
	b.want("Ready, told behind the second one", two, []int{23, 27})
	spoil(two)
	b.want("Ready in the next one", b.ready(), []int{101})
}

// TestLostThatWereToldDoNotFollow has more be lost behind an answer.
func TestLostThatWereToldDoNotFollow(t *testing.T) {
	b := on(t, 100)
	b.lays(weak, 1)
	b.lays(weak, 5)
	b.lays(weak, 9)
	b.lays(has(0, 0), 13)
	b.points(1, 13)
	b.points(9, 13)
	roots := b.collects(1, 5, 9)
	one := b.lost()
	b.points(roots[1], b.lays(has(0, 0), 113))
	roots = b.collects(roots...)
	b.want("Lost, told behind the first one", one, []int{1, 3})
	spoil(one)
	two := b.lost()
	b.want("Lost behind that", two, []int{2})
	b.points(roots[0], b.lays(has(0, 0), 13))
	b.collects(roots...)
	b.want("Lost, told behind the second one", two, []int{2})
	spoil(two)
	b.want("Lost in the next one", b.lost(), []int{1})
}

// R4

// TestCyclesKnowNothingOfOneAnother does anything to three by turns: each one is as it is by the rules.
func TestCyclesKnowNothingOfOneAnother(t *testing.T) {
	for start := range 20 {
		pick := chance(start)
		l := []*both{on(t, 40), on(t, 40), on(t, 60)}
		for range 150 {
			anyCall(l[pick(3)], pick)
		}
		for _, b := range l {
			b.looks()
			b.ready()
			b.lost()
		}
	}
}

// TestTheSameCallsTellTheSame does the same to two, one behind the other.
func TestTheSameCallsTellTheSame(t *testing.T) {
	for start := range 20 {
		var words []string
		for range 2 {
			pick := chance(start)
			b := on(t, 50)
			for range 150 {
				anyCall(b, pick)
			}
			words = append(words, fmt.Sprint(b.last, b.ready(), b.lost()))
		}
		if words[0] != words[1] {
			t.Errorf("from %d on: %s, then %s", start, words[0], words[1])
		}
	}
}
