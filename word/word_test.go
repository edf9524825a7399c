package word

import (
	"math"
	"slices"
	"testing"

	"middenheap/api"
)

const all = ^uint64(0)

// samples are words with bits at the ends, in the middle, all, none, and some from a short rule.
func samples() []uint64 {
	l := []uint64{0, 1, 2, 77, 1 << 31, 1 << 32, 1 << 62, 1 << 63, all, all - 1, all >> 1, 0xaaaaaaaaaaaaaaaa, 0x5555555555555555, 0x0123456789abcdef}
	w := uint64(1)
	for range 20 {
		w = w*6364136223846793005 + 1442695040888963407
		l = append(l, w)
	}
	return l
}

// everyPart is each part whose numbers lie in a word or a little beyond, and some far away.
func everyPart() []api.Part {
	var l []api.Part
	for shift := -2; shift <= 66; shift++ {
		for width := -2; width <= 66; width++ {
			l = append(l, api.Part{Shift: shift, Width: width})
		}
	}
	far := []int{math.MinInt, math.MinInt + 1, -1 << 32, -64, 0, 1, 63, 64, 1 << 32, math.MaxInt - 1, math.MaxInt}
	for _, shift := range far {
		for _, width := range far {
			l = append(l, api.Part{Shift: shift, Width: width})
		}
	}
	return l
}

// mayBe is W1's condition, word for word, in numbers that can't go round.
func mayBe(p api.Part) bool {
	return 0 <= p.Shift && p.Shift <= 63 && 1 <= p.Width && p.Width <= 64 && p.Shift <= 64-p.Width
}

// bit tells the bit i of a word.
func bit(w uint64, i int) uint64 { return w >> i & 1 }

// inPart tells whether the bit i is one of a part's.
func inPart(p api.Part, i int) bool { return mayBe(p) && i >= p.Shift && i-p.Shift < p.Width }

// W1

func TestRight(t *testing.T) {
	count := 0
	for shift := -2; shift <= 66; shift++ {
		for width := -2; width <= 66; width++ {
			if Right(api.Part{Shift: shift, Width: width}) {
				count++
			}
		}
	}
	if count != 64*65/2 {
		t.Errorf("%d parts are right", count)
	}
	for _, p := range everyPart() {
		if Right(p) != mayBe(p) {
			t.Errorf("Right(%v) = %v", p, Right(p))
		}
	}
}

func TestMask(t *testing.T) {
	for _, p := range everyPart() {
		m := Mask(p)
		for i := range 64 {
			if (bit(m, i) == 1) != inPart(p, i) {
				t.Fatalf("Mask(%v) = %x", p, m)
			}
		}
	}
	if m := Mask(api.Part{Shift: 63, Width: 1}); m != 1<<63 {
		t.Errorf("%x", m)
	}
	if m := Mask(api.Part{Shift: 0, Width: 64}); m != all {
		t.Errorf("%x", m)
	}
}

// W2

func TestGet(t *testing.T) {
	if n := Get(77, api.Part{Shift: 3, Width: 4}); n != 9 {
		t.Error(n)
	}
	for _, p := range everyPart() {
		for _, w := range samples() {
			want := uint64(0)
			for i := 63; i >= 0; i-- {
				if inPart(p, i) {
					want = want*2 + bit(w, i)
				}
			}
			if n := Get(w, p); n != want {
				t.Fatalf("Get(%x, %v) = %x, not %x", w, p, n, want)
			}
		}
	}
}

func TestSet(t *testing.T) {
	for _, p := range everyPart() {
		for _, w := range samples() {
			for _, v := range samples() {
				checkSet(t, w, p, v)
			}
		}
	}
}

func checkSet(t *testing.T, w uint64, p api.Part, v uint64) {
	t.Helper()
	got, ok := Set(w, p, v)
	fits := mayBe(p) && (p.Width == 64 || v < 1<<p.Width)
	if ok != fits {
		t.Fatalf("Set(%x, %v, %x): %v", w, p, v, ok)
	}
	for i := range 64 {
		want := bit(w, i)
		if fits && inPart(p, i) {
			want = bit(v, i-p.Shift)
		}
		if bit(got, i) != want {
			t.Fatalf("Set(%x, %v, %x) = %x, %v", w, p, v, got, ok)
		}
	}
}

func TestSetAtTheEdgeOfWidth(t *testing.T) {
	for _, p := range everyPart() {
		if !mayBe(p) {
			continue
		}
		most := all >> (64 - p.Width)
		checkSet(t, 0, p, most)
		checkSet(t, all, p, 0)
		checkSet(t, 0x0123456789abcdef, p, most)
		if p.Width < 64 {
			checkSet(t, 0x0123456789abcdef, p, most+1)
			checkSet(t, 0x0123456789abcdef, p, all)
		}
	}
}

// W3

type packing struct {
	widths []int
	l      []uint64
	w      uint64
}

func TestPackAndUnpack(t *testing.T) {
	ones, bits := slices.Repeat([]int{1}, 64), slices.Repeat([]uint64{1, 0}, 32)
	for i, x := range []packing{
		{nil, nil, 0},
		{[]int{}, []uint64{}, 0},
		{[]int{3, 4}, []uint64{5, 9}, 77},
		{[]int{4, 3}, []uint64{5, 1}, 21},
		{[]int{1}, []uint64{1}, 1},
		{[]int{64}, []uint64{0}, 0},
		{[]int{64}, []uint64{all}, all},
		{[]int{63, 1}, []uint64{0, 1}, 1 << 63},
		{[]int{1, 63}, []uint64{1, all >> 1}, all},
		{[]int{1, 63}, []uint64{0, 1}, 2},
		{[]int{8, 8, 8}, []uint64{0x12, 0, 0xff}, 0xff0012},
		{[]int{32, 32}, []uint64{1, 2}, 2<<32 | 1},
		{ones, bits, 0x5555555555555555},
	} {
		if w, ok := Pack(x.widths, x.l); w != x.w || !ok {
			t.Errorf("%d: Pack: %x, %v", i, w, ok)
		}
		if l, ok := Unpack(x.widths, x.w); !slices.Equal(l, x.l) || !ok {
			t.Errorf("%d: Unpack: %v, %v", i, l, ok)
		}
	}
}

func TestPackRefuses(t *testing.T) {
	for i, x := range []packing{
		{widths: []int{1}, l: nil},
		{widths: nil, l: []uint64{0}},
		{widths: []int{1, 2}, l: []uint64{1}},
		{widths: []int{1, 2}, l: []uint64{1, 1, 0}},
		{widths: []int{64, 0}, l: []uint64{1}},
		{widths: []int{3}, l: []uint64{8}},
		{widths: []int{3, 4}, l: []uint64{5, 16}},
		{widths: []int{3, 4}, l: []uint64{8, 0}},
		{widths: []int{1, 2, 3}, l: []uint64{1, 4, 1}},
		{widths: []int{63}, l: []uint64{1 << 63}},
		{widths: []int{1, 63}, l: []uint64{1, 1 << 63}},
	} {
		if w, ok := Pack(x.widths, x.l); w != 0 || ok {
			t.Errorf("%d: Pack(%v, %v): %x, %v", i, x.widths, x.l, w, ok)
		}
	}
}

// wrongWidths are widths of which one is not 1 to 64, or all together are above 64, also where their sum goes round.
func wrongWidths() [][]int {
	return [][]int{
		{0}, {-1}, {65}, {128}, {math.MinInt}, {math.MaxInt},
		{0, 1}, {1, 0}, {1, 0, 1}, {3, -1}, {-1, 3}, {4, -4}, {-64, 64},
		{64, 1}, {1, 64}, {64, 64}, {60, 5}, {32, 32, 1}, {64, 0}, {64, -1}, {64, -64}, {63, 2, -1},
		{math.MaxInt, math.MaxInt, 2}, {2, math.MaxInt}, {math.MaxInt, 2}, {math.MinInt, math.MinInt}, {64, math.MinInt, math.MinInt}, {1 << 62, 1 << 62, 1 << 62, 1 << 62},
		slices.Repeat([]int{1}, 65), append(slices.Repeat([]int{1}, 64), 0), slices.Repeat([]int{1}, 1000), slices.Repeat([]int{64}, 1000),
	}
}

func TestWrongWidths(t *testing.T) {
	for _, widths := range wrongWidths() {
		if w, ok := Pack(widths, make([]uint64, len(widths))); w != 0 || ok {
			t.Errorf("Pack(%v): %x, %v", widths, w, ok)
		}
		if w, ok := Pack(widths, slices.Repeat([]uint64{1}, len(widths))); w != 0 || ok {
			t.Errorf("Pack(%v) of ones: %x, %v", widths, w, ok)
		}
		for _, w := range samples() {
			if l, ok := Unpack(widths, w); len(l) != 0 || ok {
				t.Errorf("Unpack(%v, %x): %v, %v", widths, w, l, ok)
			}
		}
	}
}

func TestUnpackRefusesBitsAbove(t *testing.T) {
	for total := range 64 {
		var widths []int
		if total > 0 {
			widths = append(widths, total)
		}
		if total > 1 {
			widths = []int{1, total - 1}
		}
		for i := total; i < 64; i++ {
			w := uint64(1)<<i | 1<<total>>1
			if l, ok := Unpack(widths, w); len(l) != 0 || ok {
				t.Errorf("Unpack(%v, %x): %v, %v", widths, w, l, ok)
			}
		}
		if l, ok := Unpack(widths, uint64(1)<<total-1); len(l) != len(widths) || !ok {
			t.Errorf("Unpack(%v) of all its bits: %v, %v", widths, l, ok)
		}
	}
}

// W4

func TestZigAndZag(t *testing.T) {
	for n, w := range map[int]uint64{
		0: 0, -1: 1, 1: 2, -2: 3, 2: 4, 1000: 2000, -1000: 1999,
		1 << 62: 1 << 63, -1 << 62: 1<<63 - 1,
		math.MaxInt: all - 1, math.MinInt: all, math.MaxInt - 1: all - 3, math.MinInt + 1: all - 2,
	} {
		if Zig(n) != w {
			t.Errorf("Zig(%d) = %d", n, Zig(n))
		}
		if Zag(w) != n {
			t.Errorf("Zag(%d) = %d", w, Zag(w))
		}
	}
}

// W5

func TestSetThenGet(t *testing.T) {
	for _, p := range everyPart() {
		for _, w := range samples() {
			for _, v := range samples() {
				next, ok := Set(w, p, v)
				if ok && Get(next, p) != v {
					t.Fatalf("Set(%x, %v, %x): Get tells %x", w, p, v, Get(next, p))
				}
				if !ok && next != w {
					t.Fatalf("Set(%x, %v, %x) changed it: %x", w, p, v, next)
				}
			}
		}
	}
}

func TestPartsApartDoNotTouch(t *testing.T) {
	for cut := 1; cut < 64; cut++ {
		for width := 1; width <= 64-cut; width++ {
			low, high := api.Part{Shift: 0, Width: cut}, api.Part{Shift: cut, Width: width}
			for _, w := range samples() {
				a, _ := Set(w, low, Get(^w, low))
				b, _ := Set(w, high, Get(^w, high))
				if Get(a, high) != Get(w, high) || Get(b, low) != Get(w, low) {
					t.Fatalf("%v and %v in %x", low, high, w)
				}
			}
		}
	}
}

func TestPackAndUnpackUndoOneAnother(t *testing.T) {
	for first := 1; first <= 64; first++ {
		for second := 1; first+second <= 64; second++ {
			widths := []int{first, second}
			if rest := 64 - first - second; rest > 0 {
				widths = append(widths, rest)
			}
			for _, w := range samples() {
				l, ok := Unpack(widths, w)
				if !ok {
					t.Fatalf("Unpack(%v, %x)", widths, w)
				}
				if back, ok := Pack(widths, l); back != w || !ok {
					t.Fatalf("Pack(%v, %v) = %x, %v", widths, l, back, ok)
				}
				if again, ok := Unpack(widths, w); !slices.Equal(again, l) || !ok {
					t.Fatalf("Unpack(%v, %x) = %v, then %v", widths, w, l, again)
				}
			}
		}
	}
}

func TestZigAndZagUndoOneAnother(t *testing.T) {
	for _, w := range samples() {
		if Zig(Zag(w)) != w || Zag(Zig(int(w))) != int(w) {
			t.Errorf("%x", w)
		}
	}
	for n := -1000; n <= 1000; n++ {
		if Zag(Zig(n)) != n {
			t.Error(n)
		}
	}
	for w := range uint64(1000) {
		if Zig(Zag(w)) != w {
			t.Error(w)
		}
	}
}

// R3 and R4

func TestWhatIsHandedInStaysAsItIs(t *testing.T) {
	widths, l := []int{3, 4, 99}, []uint64{5, 9, 88}
	if w, ok := Pack(widths[:2], l[:2]); w != 77 || !ok {
		t.Fatal(w, ok)
	}
	if _, ok := Unpack(widths[:2], 77); !ok {
		t.Fatal("Unpack")
	}
	Pack(widths, l)
	Unpack(widths, 77)
	if !slices.Equal(widths, []int{3, 4, 99}) || !slices.Equal(l, []uint64{5, 9, 88}) {
		t.Error(widths, l)
	}
}

func TestWhatComesOutIsNewMemory(t *testing.T) {
	widths := []int{3, 4}
	first, _ := Unpack(widths, 77)
	second, _ := Unpack(widths, 77)
	for _, l := range [][]uint64{first, first[:cap(first)]} {
		for i := range l {
			l[i] = 1
		}
	}
	_ = append(first[:0], 6, 6, 6)
	if third, _ := Unpack(widths, 77); !slices.Equal(second, []uint64{5, 9}) || !slices.Equal(third, second) {
		t.Error(second, third)
	}
	widths[0] = 7
	if !slices.Equal(second, []uint64{5, 9}) {
		t.Error(second)
	}
}

// R6: the first width that may not be ends it, however many stand behind.

func TestManyWidthsEnd(t *testing.T) {
	widths := slices.Repeat([]int{1}, 1<<16)
	if w, ok := Pack(widths, make([]uint64, len(widths))); w != 0 || ok {
		t.Error(w, ok)
	}
	if l, ok := Unpack(widths, 0); len(l) != 0 || ok {
		t.Error(len(l), ok)
	}
}

// The way of this package: whoever leaves the parts early is not asked again, and a part that is not right is the last one.

func TestParts(t *testing.T) {
	var got []api.Part
	for i, p := range parts([]int{3, 4, 0, 5}) {
		if i != len(got) {
			t.Error(i)
		}
		got = append(got, p)
	}
	if !slices.Equal(got, []api.Part{{Shift: 0, Width: 3}, {Shift: 3, Width: 4}, {Shift: 7, Width: 0}}) {
		t.Error(got)
	}
	for _, p := range parts([]int{3, 4}) {
		if p.Shift != 0 {
			t.Error(p)
		}
		break
	}
}
