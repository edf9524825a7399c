package header

import (
	"math"
	"slices"
	"testing"

	"middenheap/api"
)

// The bounds are written out, as are the words below: nothing of the program is held against itself.
const (
	mostField   = 8
	mostPlace   = 1 << 17
	mostVersion = 1 << 40
	mostOwner   = 7
	all         = ^uint64(0)
)

// made is what a word is made of: a Head's shape and whether it is freed.
type made struct {
	s     api.Shape
	freed bool
}

// mayBe is H1's condition, word for word.
func mayBe(s api.Shape) bool {
	if s.Ptrs < 0 || s.Ptrs > mostField || s.Data < 0 || s.Data > mostField {
		return false
	}
	if s.Weak && (s.Ptrs != 1 || s.Data != 0 || s.Final) {
		return false
	}
	return true
}

// headWord is H2's word as a sum.
func headWord(m made) uint64 {
	w := 1 + 2*uint64(m.s.Ptrs) + 32*uint64(m.s.Data)
	if m.s.Weak {
		w += 512
	}
	if m.s.Final {
		w += 1024
	}
	if m.freed {
		w += 2048
	}
	return w
}

// counts are numbers of pointers, or of numbers: each that may be, and edges about them and about where numbers go round.
func counts() []int {
	return []int{
		math.MinInt, math.MinInt + 1, -1 << 62, -1 << 32, -1<<32 + 1, -256, -255, -16, -15, -9, -8, -2, -1,
		0, 1, 2, 3, 4, 5, 6, 7, 8, 9, 10, 15, 16, 17, 24, 31, 32, 33, 255, 256, 257, 264,
		1<<32 - 1, 1 << 32, 1<<32 + 1, 1<<32 + 8, 1 << 62, 1<<63 - 16, math.MaxInt - 1, math.MaxInt,
	}
}

// shapes are those of all counts, weak or not, to be finalized or not.
func shapes() []api.Shape {
	var l []api.Shape
	for _, ptrs := range counts() {
		for _, data := range counts() {
			for _, weak := range []bool{false, true} {
				for _, final := range []bool{false, true} {
					l = append(l, api.Shape{Ptrs: ptrs, Data: data, Weak: weak, Final: final})
				}
			}
		}
	}
	return l
}

// heads are all words that H2 makes, with what each is made of.
func heads() map[uint64]made {
	l := make(map[uint64]made)
	for _, s := range shapes() {
		if !mayBe(s) {
			continue
		}
		for _, freed := range []bool{false, true} {
			l[headWord(made{s, freed})] = made{s, freed}
		}
	}
	return l
}

// numbers are places, versions, owners: about each bound, about powers of two, and where numbers go round.
func numbers() []int {
	l := []int{math.MinInt, math.MinInt + 1, math.MinInt + mostPlace, -100, 100, math.MaxInt - 1, math.MaxInt}
	for i := range 63 {
		l = append(l, 1<<i-1, 1<<i, 1<<i+1, -1<<i-1, -1<<i, -1<<i+1)
	}
	for i := range 40 {
		l = append(l, i, -i, mostPlace-i, mostPlace+i, mostVersion-i, mostVersion+i)
	}
	return l
}

// words are those of all numbers, in each place that a word may have them, and the words about them; 0 and all bits set are among them.
func words() []uint64 {
	var l []uint64
	for _, n := range numbers() {
		for shift := range 4 {
			for add := range uint64(4) {
				l = append(l, uint64(n)<<shift+add, uint64(n)<<shift-add)
			}
		}
	}
	w := uint64(1)
	for range 1000 {
		w = w*6364136223846793005 + 1442695040888963407
		l = append(l, w, w>>20, w>>40, w>>46, w>>52, w>>60)
	}
	return append(l, 0, all)
}

// checkHead holds a word against H2: whether Shape tells just what it is made of.
func checkHead(t *testing.T, heads map[uint64]made, w uint64) {
	t.Helper()
	want, may := heads[w]
	if s, freed, ok := Shape(w); s != want.s || freed != want.freed || ok != may {
		t.Errorf("Shape(%#x): %+v, %v, %v, not %+v, %v", w, s, freed, ok, want, may)
	}
}

// checkWhere holds a word against H3: 4 times a place, and 2.
func checkWhere(t *testing.T, w uint64) {
	t.Helper()
	want, may := 0, w%4 == 2 && w/4 >= 1 && w/4 <= mostPlace
	if may {
		want = int(w / 4)
	}
	if at, ok := Where(w); at != want || ok != may {
		t.Errorf("Where(%#x): %d, %v, not %d, %v", w, at, ok, want, may)
	}
}

// checkOwner holds a word against H4: 2 times a version, or 2 times an owner, and 1.
func checkOwner(t *testing.T, w uint64) {
	t.Helper()
	var thread, stamp int
	is := w%2 == 1 && w/2 <= mostOwner
	if is {
		thread = int(w / 2)
	}
	if w%2 == 0 && w/2 <= mostVersion {
		stamp = int(w / 2)
	}
	if owner, version, held := Owner(w); owner != thread || version != stamp || held != is {
		t.Errorf("Owner(%#x): %d, %d, %v, not %d, %d, %v", w, owner, version, held, thread, stamp, is)
	}
}

// The chapter's example

func TestExample(t *testing.T) {
	if w, ok := Head(api.Shape{Ptrs: 2, Data: 1}, false); w != 37 || !ok {
		t.Errorf("Head: %d, %v", w, ok)
	}
	if s, freed, ok := Shape(37); s != (api.Shape{Ptrs: 2, Data: 1}) || freed || !ok {
		t.Errorf("Shape(37): %+v, %v, %v", s, freed, ok)
	}
}

// H1

func TestRight(t *testing.T) {
	are := 0
	for _, s := range shapes() {
		want := mayBe(s)
		if want {
			are++
		}
		if got := Right(s); got != want {
			t.Errorf("Right(%+v): %v", s, got)
		}
	}
	if are != 9*9*2+1 {
		t.Errorf("%d shapes are right", are)
	}
}

func TestRightAtEdges(t *testing.T) {
	for _, x := range []struct {
		s    api.Shape
		want bool
	}{
		{api.Shape{}, true}, {api.Shape{Ptrs: 1}, true}, {api.Shape{Data: 1}, true}, {api.Shape{Ptrs: 8}, true}, {api.Shape{Data: 8}, true},
		{api.Shape{Ptrs: 8, Data: 8}, true}, {api.Shape{Ptrs: 8, Data: 8, Final: true}, true}, {api.Shape{Final: true}, true},
		{api.Shape{Ptrs: 9}, false}, {api.Shape{Data: 9}, false}, {api.Shape{Ptrs: 9, Data: 9}, false}, {api.Shape{Ptrs: 9, Final: true}, false},
		{api.Shape{Ptrs: -1}, false}, {api.Shape{Data: -1}, false}, {api.Shape{Ptrs: -1, Data: -1}, false}, {api.Shape{Data: -1, Final: true}, false},
		{api.Shape{Ptrs: -1, Data: 9}, false}, {api.Shape{Ptrs: 9, Data: -1}, false}, {api.Shape{Ptrs: -1, Data: 1}, false}, {api.Shape{Ptrs: 1, Data: -1}, false},
		{api.Shape{Ptrs: math.MinInt}, false}, {api.Shape{Data: math.MinInt}, false}, {api.Shape{Ptrs: math.MaxInt}, false}, {api.Shape{Data: math.MaxInt}, false},
		{api.Shape{Ptrs: math.MinInt, Data: math.MinInt}, false}, {api.Shape{Ptrs: math.MaxInt, Data: math.MinInt}, false},
	} {
		if got := Right(x.s); got != x.want {
			t.Errorf("Right(%+v): %v", x.s, got)
		}
	}
}

func TestRightOfWeak(t *testing.T) {
	for _, ptrs := range counts() {
		for _, data := range counts() {
			want := ptrs == 1 && data == 0
			if got := Right(api.Shape{Ptrs: ptrs, Data: data, Weak: true}); got != want {
				t.Errorf("Right of a weak one of %d, %d: %v", ptrs, data, got)
			}
			if Right(api.Shape{Ptrs: ptrs, Data: data, Weak: true, Final: true}) {
				t.Errorf("Right of a weak one of %d, %d, to be finalized: true", ptrs, data)
			}
		}
	}
}

func TestSize(t *testing.T) {
	for _, s := range shapes() {
		want, may := 0, mayBe(s)
		if may {
			want = 3 + s.Ptrs + s.Data
		}
		if n, ok := Size(s); n != want || ok != may {
			t.Errorf("Size(%+v): %d, %v", s, n, ok)
		}
	}
	for _, x := range []struct {
		s    api.Shape
		want int
	}{
		{api.Shape{}, 3}, {api.Shape{Final: true}, 3}, {api.Shape{Ptrs: 1}, 4}, {api.Shape{Data: 1}, 4}, {api.Shape{Ptrs: 1, Weak: true}, 4},
		{api.Shape{Ptrs: 2, Data: 1}, 6}, {api.Shape{Ptrs: 8}, 11}, {api.Shape{Data: 8}, 11}, {api.Shape{Ptrs: 8, Data: 8, Final: true}, 19},
	} {
		if n, ok := Size(x.s); n != x.want || !ok {
			t.Errorf("Size(%+v): %d, %v", x.s, n, ok)
		}
	}
}

// H2

func TestHead(t *testing.T) {
	for _, s := range shapes() {
		for _, freed := range []bool{false, true} {
			want, may := uint64(0), mayBe(s)
			if may {
				want = headWord(made{s, freed})
			}
			if w, ok := Head(s, freed); w != want || ok != may {
				t.Errorf("Head(%+v, %v): %#x, %v, not %#x", s, freed, w, ok, want)
			}
		}
	}
}

func TestHeadBits(t *testing.T) {
	for _, x := range []struct {
		s     api.Shape
		freed bool
		want  uint64
	}{
		{api.Shape{}, false, 0b0000_0000_0001}, {api.Shape{Ptrs: 1}, false, 0b0000_0000_0011}, {api.Shape{Ptrs: 8}, false, 0b0000_0001_0001},
		{api.Shape{Ptrs: 7}, false, 0b0000_0000_1111}, {api.Shape{Data: 1}, false, 0b0000_0010_0001}, {api.Shape{Data: 8}, false, 0b0001_0000_0001},
		{api.Shape{Data: 7}, false, 0b0000_1110_0001}, {api.Shape{Ptrs: 8, Data: 8}, false, 0b0001_0001_0001},
		{api.Shape{Ptrs: 1, Weak: true}, false, 0b0010_0000_0011}, {api.Shape{Final: true}, false, 0b0100_0000_0001},
		{api.Shape{}, true, 0b1000_0000_0001}, {api.Shape{Ptrs: 1, Weak: true}, true, 0b1010_0000_0011},
		{api.Shape{Ptrs: 8, Data: 8, Final: true}, true, 0b1101_0001_0001}, {api.Shape{Ptrs: 7, Data: 7, Final: true}, true, 0b1100_1110_1111},
	} {
		if w, ok := Head(x.s, x.freed); w != x.want || !ok {
			t.Errorf("Head(%+v, %v): %#b, %v, not %#b", x.s, x.freed, w, ok, x.want)
		}
		if s, freed, ok := Shape(x.want); s != x.s || freed != x.freed || !ok {
			t.Errorf("Shape(%#b): %+v, %v, %v", x.want, s, freed, ok)
		}
	}
}

func TestShape(t *testing.T) {
	heads := heads()
	if len(heads) != 2*(9*9*2+1) {
		t.Fatalf("%d heads", len(heads))
	}
	for w := range uint64(1 << 16) {
		checkHead(t, heads, w)
		checkHead(t, heads, w<<48)
		checkHead(t, heads, w<<48+37)
	}
	for _, w := range words() {
		checkHead(t, heads, w)
	}
}

func TestShapeOfHeadsButForBits(t *testing.T) {
	heads := heads()
	for head := range heads {
		checkHead(t, heads, head)
		for i := range 64 {
			checkHead(t, heads, head^1<<i)
			for j := range i {
				checkHead(t, heads, head^1<<i^1<<j)
			}
		}
		checkHead(t, heads, ^head)
		checkHead(t, heads, head|^uint64(1<<12-1))
		checkHead(t, heads, head<<1)
		checkHead(t, heads, head<<32)
	}
}

func TestShapeOfCountsAbove(t *testing.T) {
	for n := uint64(9); n < 16; n++ {
		for other := range uint64(16) {
			for above := range uint64(8) {
				for _, w := range []uint64{1 + 2*n + 32*other + 512*above, 1 + 2*other + 32*n + 512*above} {
					if s, freed, ok := Shape(w); s != (api.Shape{}) || freed || ok {
						t.Errorf("Shape(%#x): %+v, %v, %v", w, s, freed, ok)
					}
				}
			}
		}
	}
}

func TestShapeOfWeakWords(t *testing.T) {
	for ptrs := range uint64(16) {
		for data := range uint64(16) {
			for final := range uint64(2) {
				for freed := range uint64(2) {
					w := 1 + 2*ptrs + 32*data + 512 + 1024*final + 2048*freed
					var want made
					may := ptrs == 1 && data == 0 && final == 0
					if may {
						want = made{api.Shape{Ptrs: 1, Weak: true}, freed == 1}
					}
					if s, is, ok := Shape(w); s != want.s || is != want.freed || ok != may {
						t.Errorf("Shape(%#x): %+v, %v, %v", w, s, is, ok)
					}
				}
			}
		}
	}
}

// H3

func TestGone(t *testing.T) {
	for at := 1; at <= mostPlace; at++ {
		if w, ok := Gone(at); w != 4*uint64(at)+2 || !ok {
			t.Fatalf("Gone(%d): %#x, %v", at, w, ok)
		}
	}
	for _, at := range numbers() {
		want, may := uint64(0), at >= 1 && at <= mostPlace
		if may {
			want = 4*uint64(at) + 2
		}
		if w, ok := Gone(at); w != want || ok != may {
			t.Errorf("Gone(%d): %#x, %v", at, w, ok)
		}
	}
}

func TestGoneAtEdges(t *testing.T) {
	for _, x := range []struct {
		at   int
		want uint64
		ok   bool
	}{
		{1, 6, true}, {2, 10, true}, {3, 14, true}, {20, 82, true}, {1 << 16, 262146, true}, {131071, 524286, true}, {131072, 524290, true},
		{0, 0, false}, {131073, 0, false}, {-1, 0, false}, {-131072, 0, false}, {1 << 18, 0, false},
		{1<<62 + 1, 0, false}, {1 << 62, 0, false}, {math.MinInt + 1, 0, false}, {math.MinInt, 0, false}, {math.MaxInt, 0, false},
	} {
		if w, ok := Gone(x.at); w != x.want || ok != x.ok {
			t.Errorf("Gone(%d): %d, %v", x.at, w, ok)
		}
	}
}

func TestWhere(t *testing.T) {
	for w := range uint64(4*mostPlace + 100) {
		checkWhere(t, w)
	}
	for _, w := range words() {
		checkWhere(t, w)
	}
}

func TestWhereOfEachKind(t *testing.T) {
	for _, x := range []struct {
		at uint64
		ok bool
	}{
		{0, false}, {1, true}, {2, true}, {1 << 16, true}, {1<<17 - 1, true}, {1 << 17, true}, {1<<17 + 1, false}, {1 << 18, false},
		{1<<32 + 1, false}, {1 << 61, false}, {1<<61 + 1, false}, {1<<62 - 1, false},
	} {
		for kind := range uint64(4) {
			want, may := 0, x.ok && kind == 2
			if may {
				want = int(x.at)
			}
			if at, ok := Where(x.at<<2 | kind); at != want || ok != may {
				t.Errorf("Where of %d, kind %d: %d, %v", x.at, kind, at, ok)
			}
		}
	}
}

func TestWhereOfGonesButForBits(t *testing.T) {
	for _, at := range []uint64{1, 2, 3, 77, 1 << 16, 1<<17 - 1, 1 << 17} {
		for i := range 64 {
			checkWhere(t, 4*at+2^1<<i)
			for j := range i {
				checkWhere(t, 4*at+2^1<<i^1<<j)
			}
		}
	}
}

// H4

func TestFree(t *testing.T) {
	for _, version := range numbers() {
		want, may := uint64(0), version >= 0 && version <= mostVersion
		if may {
			want = 2 * uint64(version)
		}
		if w, ok := Free(version); w != want || ok != may {
			t.Errorf("Free(%d): %#x, %v", version, w, ok)
		}
	}
}

func TestFreeAtEdges(t *testing.T) {
	for _, x := range []struct {
		version int
		want    uint64
		ok      bool
	}{
		{0, 0, true}, {1, 2, true}, {7, 14, true}, {8, 16, true}, {1099511627775, 2199023255550, true}, {1099511627776, 2199023255552, true},
		{1099511627777, 0, false}, {-1, 0, false}, {-1099511627776, 0, false}, {1 << 62, 0, false},
		{math.MinInt, 0, false}, {math.MinInt + 1, 0, false}, {math.MaxInt, 0, false},
	} {
		if w, ok := Free(x.version); w != x.want || ok != x.ok {
			t.Errorf("Free(%d): %d, %v", x.version, w, ok)
		}
	}
}

func TestHeld(t *testing.T) {
	for _, owner := range numbers() {
		want, may := uint64(0), owner >= 0 && owner <= mostOwner
		if may {
			want = 2*uint64(owner) + 1
		}
		if w, ok := Held(owner); w != want || ok != may {
			t.Errorf("Held(%d): %#x, %v", owner, w, ok)
		}
	}
	for _, x := range []struct {
		owner int
		want  uint64
		ok    bool
	}{{0, 1, true}, {1, 3, true}, {6, 13, true}, {7, 15, true}, {8, 0, false}, {-1, 0, false}, {math.MinInt, 0, false}, {math.MaxInt, 0, false}} {
		if w, ok := Held(x.owner); w != x.want || ok != x.ok {
			t.Errorf("Held(%d): %d, %v", x.owner, w, ok)
		}
	}
}

func TestOwner(t *testing.T) {
	for w := range uint64(1 << 16) {
		checkOwner(t, w)
		checkOwner(t, all-w)
		checkOwner(t, 2*mostVersion-1<<15+w)
	}
	for _, w := range words() {
		checkOwner(t, w)
	}
}

func TestOwnerAtEdges(t *testing.T) {
	for _, x := range []struct {
		w              uint64
		owner, version int
		held           bool
	}{
		{0, 0, 0, false}, {1, 0, 0, true}, {2, 0, 1, false}, {3, 1, 0, true}, {14, 0, 7, false}, {15, 7, 0, true}, {16, 0, 8, false}, {17, 0, 0, false}, {19, 0, 0, false},
		{2199023255550, 0, 1099511627775, false}, {2199023255552, 0, 1099511627776, false}, {2199023255554, 0, 0, false},
		{2199023255551, 0, 0, false}, {2199023255553, 0, 0, false}, {1 << 63, 0, 0, false}, {1<<63 + 1, 0, 0, false}, {1<<63 + 15, 0, 0, false},
		{all, 0, 0, false}, {all - 1, 0, 0, false},
	} {
		if owner, version, held := Owner(x.w); owner != x.owner || version != x.version || held != x.held {
			t.Errorf("Owner(%d): %d, %d, %v", x.w, owner, version, held)
		}
	}
}

func TestOwnerButForBits(t *testing.T) {
	for _, w := range []uint64{0, 1, 2, 15, 16, 1 << 20, 2*mostVersion - 2, 2 * mostVersion} {
		for i := range 64 {
			checkOwner(t, w^1<<i)
			for j := range i {
				checkOwner(t, w^1<<i^1<<j)
			}
		}
	}
}

// H5

func TestHeadTellsWhatItWasMadeOf(t *testing.T) {
	for _, s := range shapes() {
		for _, freed := range []bool{false, true} {
			w, ok := Head(s, freed)
			if !ok {
				continue
			}
			if back, is, ok := Shape(w); back != s || is != freed || !ok {
				t.Errorf("Shape(%#x) of %+v, %v: %+v, %v, %v", w, s, freed, back, is, ok)
			}
			if at, ok := Where(w); at != 0 || ok {
				t.Errorf("Where(%#x) of a Head: %d, %v", w, at, ok)
			}
		}
	}
}

func TestGoneTellsWhatItWasMadeOf(t *testing.T) {
	for at := -10; at <= mostPlace+10; at++ {
		w, ok := Gone(at)
		if !ok {
			continue
		}
		if back, ok := Where(w); back != at || !ok {
			t.Errorf("Where(%#x) of %d: %d, %v", w, at, back, ok)
		}
		if s, freed, ok := Shape(w); s != (api.Shape{}) || freed || ok {
			t.Errorf("Shape(%#x) of a Gone: %+v, %v, %v", w, s, freed, ok)
		}
	}
}

func TestSecondWordsTellWhatTheyWereMadeOf(t *testing.T) {
	held := make(map[uint64]bool)
	for _, n := range numbers() {
		if w, ok := Held(n); ok {
			held[w] = true
			if owner, version, is := Owner(w); owner != n || version != 0 || !is {
				t.Errorf("Owner(%#x) of Held(%d): %d, %d, %v", w, n, owner, version, is)
			}
		}
	}
	if len(held) != 8 {
		t.Errorf("%d words of owners", len(held))
	}
	for _, n := range numbers() {
		if w, ok := Free(n); ok {
			if owner, version, is := Owner(w); owner != 0 || version != n || is || held[w] {
				t.Errorf("Owner(%#x) of Free(%d): %d, %d, %v", w, n, owner, version, is)
			}
		}
	}
}

func TestWhatIsToldMakesTheWord(t *testing.T) {
	for _, w := range slices.Concat(words(), []uint64{37, 6, 524290, 15, 2 * mostVersion}) {
		if s, freed, ok := Shape(w); ok {
			if back, ok := Head(s, freed); back != w || !ok {
				t.Errorf("Head(%+v, %v): %#x, %v, not %#x", s, freed, back, ok, w)
			}
		}
		if at, ok := Where(w); ok {
			if back, ok := Gone(at); back != w || !ok {
				t.Errorf("Gone(%d): %#x, %v, not %#x", at, back, ok, w)
			}
		}
		owner, version, held := Owner(w)
		if held {
			if back, ok := Held(owner); back != w || !ok {
				t.Errorf("Held(%d): %#x, %v, not %#x", owner, back, ok, w)
			}
		} else if version > 0 {
			if back, ok := Free(version); back != w || !ok {
				t.Errorf("Free(%d): %#x, %v, not %#x", version, back, ok, w)
			}
		}
	}
}

// R4

func TestAnswersHangOnArgumentsAlone(t *testing.T) {
	for _, w := range words() {
		Shape(w)
		Where(w)
		Owner(w)
		Gone(int(w))
		Free(int(w))
		Held(int(w))
		Head(api.Shape{Ptrs: int(w), Data: int(w >> 3), Weak: w&1 == 1}, w&2 == 2)
		if head, ok := Head(api.Shape{Ptrs: 2, Data: 1}, false); head != 37 || !ok {
			t.Fatalf("behind %#x: Head: %d, %v", w, head, ok)
		}
		if gone, ok := Gone(20); gone != 82 || !ok {
			t.Fatalf("behind %#x: Gone: %d, %v", w, gone, ok)
		}
		if owner, version, held := Owner(15); owner != 7 || version != 0 || !held {
			t.Fatalf("behind %#x: Owner: %d, %d, %v", w, owner, version, held)
		}
	}
}
