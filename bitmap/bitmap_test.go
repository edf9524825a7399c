package bitmap

import (
	"math"
	"slices"
	"testing"
)

// far are numbers about the ends of a set below a bound, about the ends of words, and the least and the greatest ones.
func far(bound int) []int {
	return []int{
		math.MinInt, math.MinInt + 1, -1 << 32, -1 << 16, -65, -64, -63, -2, -1, 0, 1, 2, 62, 63, 64, 65, 127, 128, 129,
		bound - 65, bound - 64, bound - 2, bound - 1, bound, bound + 1, bound + 63, bound + 64, bound + 65,
		1<<16 - 1, 1 << 16, 1<<16 + 1, 1 << 32, 1<<32 + 1, 1 << 62, math.MaxInt - 64, math.MaxInt - 63, math.MaxInt - 1, math.MaxInt,
	}
}

// bounds are what numbers of New are held against, each with the bound that it is to lead to.
func bounds() map[int]int {
	return map[int]int{
		math.MinInt: 0, math.MinInt + 1: 0, -1 << 32: 0, -64: 0, -1: 0, 0: 0,
		1: 1, 2: 2, 63: 63, 64: 64, 65: 65, 127: 127, 128: 128, 1000: 1000,
		1<<16 - 1: 1<<16 - 1, 1 << 16: 1 << 16,
		1<<16 + 1: 1 << 16, 1 << 17: 1 << 16, 1 << 32: 1 << 16, 1<<32 + 1: 1 << 16, math.MaxInt - 1: 1 << 16, math.MaxInt: 1 << 16,
	}
}

// some are numbers below a bound, at its ends, at those of words, and between.
func some(bound int) []int {
	var l []int
	for i := range bound {
		if i%64 < 2 || i%64 > 61 || i%64 == 31 || i >= bound-2 {
			l = append(l, i)
		}
	}
	return l
}

// with is a set below a bound that has numbers in it.
func with(t *testing.T, bound int, l []int) *Bitmap {
	t.Helper()
	b := New(bound)
	for _, i := range l {
		if !b.Set(i) {
			t.Fatalf("Set(%d) below %d", i, bound)
		}
	}
	return b
}

// told is what a set's Next tells, again and again.
func told(t *testing.T, b *Bitmap) []int {
	t.Helper()
	var l []int
	for i, ok := b.Next(math.MinInt); ok; i, ok = b.Next(i + 1) {
		if len(l) > 1<<16 || len(l) > 0 && i <= l[len(l)-1] {
			t.Fatalf("Next does not rise: %d", i)
		}
		l = append(l, i)
	}
	return l
}

// within are those of a list that are from or above, and below to, told by a look at each.
func within(l []int, from, to int) []int {
	var in []int
	for _, i := range l {
		if i >= from && i < to {
			in = append(in, i)
		}
	}
	return in
}

// checkAsked holds what a set answers against the rising numbers that are to be in it.
func checkAsked(t *testing.T, b *Bitmap, bound int, want []int) {
	t.Helper()
	for _, i := range far(bound) {
		if _, in := slices.BinarySearch(want, i); b.Has(i) != in {
			t.Fatalf("Has(%d) below %d: not %v", i, bound, in)
		}
		checkNext(t, b, bound, want, i)
		for _, to := range far(bound) {
			if n := b.Count(i, to); n != len(within(want, i, to)) {
				t.Fatalf("Count(%d, %d) below %d: %d, not %d", i, to, bound, n, len(within(want, i, to)))
			}
		}
	}
}

func checkNext(t *testing.T, b *Bitmap, bound int, want []int, i int) {
	t.Helper()
	wantNext, wantOK := 0, false
	if k := slices.IndexFunc(want, func(w int) bool { return w >= i }); k >= 0 {
		wantNext, wantOK = want[k], true
	}
	if next, ok := b.Next(i); next != wantNext || ok != wantOK {
		t.Fatalf("Next(%d) below %d: %d, %v, not %d, %v", i, bound, next, ok, wantNext, wantOK)
	}
}

// B1

func TestNew(t *testing.T) {
	for n, bound := range bounds() {
		b := New(n)
		if b == nil {
			t.Fatalf("New(%d): nil", n)
		}
		checkAsked(t, b, bound, nil)
		for i := range bound {
			if b.Has(i) {
				t.Fatalf("New(%d): %d is in", n, i)
			}
		}
	}
}

func TestWhatMayBeIn(t *testing.T) {
	for n, bound := range bounds() {
		for _, i := range far(bound) {
			b, may := New(n), i >= 0 && i < bound
			if b.Set(i) != may || b.Has(i) != may || b.Count(math.MinInt, math.MaxInt) != len(told(t, b)) {
				t.Errorf("Set(%d) of New(%d): not %v", i, n, may)
			}
			if may != slices.Equal(told(t, b), []int{i}) {
				t.Errorf("Set(%d) of New(%d): in are %v", i, n, told(t, b))
			}
			if b.Set(i) || b.Has(i) != may {
				t.Errorf("Set(%d) of New(%d), once more", i, n)
			}
			if b.Clear(i) != may || b.Has(i) || b.Clear(i) || len(told(t, b)) != 0 {
				t.Errorf("Clear(%d) of New(%d)", i, n)
			}
			if b.Set(i) != may || b.Has(i) != may {
				t.Errorf("Set(%d) of New(%d), anew", i, n)
			}
		}
	}
}

func TestEachNumberAlone(t *testing.T) {
	for _, bound := range []int{1, 2, 63, 64, 65, 130} {
		for i := range bound {
			b := with(t, bound, []int{i})
			for j := -70; j < bound+70; j++ {
				if b.Has(j) != (j == i) {
					t.Fatalf("Set(%d) below %d: Has(%d)", i, bound, j)
				}
			}
			for j := -70; j < bound+70; j++ {
				if j != i && b.Clear(j) {
					t.Fatalf("Set(%d) below %d: Clear(%d)", i, bound, j)
				}
			}
			if !b.Has(i) || !b.Clear(i) || b.Has(i) {
				t.Fatalf("Clear(%d) below %d", i, bound)
			}
		}
	}
}

func TestAllButOne(t *testing.T) {
	for _, bound := range []int{1, 2, 63, 64, 65, 130} {
		for i := range bound {
			b := New(bound)
			var want []int
			for j := range bound {
				b.Set(j)
				if j != i {
					want = append(want, j)
				}
			}
			if !b.Clear(i) || b.Clear(i) || !slices.Equal(told(t, b), want) {
				t.Fatalf("Clear(%d) below %d: in are %v", i, bound, told(t, b))
			}
			if n := b.Count(0, bound); n != bound-1 {
				t.Fatalf("Clear(%d) below %d: %d", i, bound, n)
			}
		}
	}
}

func TestTheGreatestSet(t *testing.T) {
	b := New(1 << 16)
	for i := range 1 << 16 {
		if !b.Set(i) {
			t.Fatal(i)
		}
	}
	if b.Set(1<<16) || b.Set(-1) || b.Clear(1<<16) || b.Clear(-1) {
		t.Error("beyond the bound")
	}
	if n := b.Count(math.MinInt, math.MaxInt); n != 1<<16 {
		t.Error(n)
	}
	if n := b.Count(1, 1<<16-1); n != 1<<16-2 {
		t.Error(n)
	}
	if l := told(t, b); len(l) != 1<<16 || l[0] != 0 || l[1<<16-1] != 1<<16-1 {
		t.Error(len(l))
	}
	for i := range 1<<16 - 1 {
		if !b.Clear(i) {
			t.Fatal(i)
		}
	}
	if i, ok := b.Next(0); i != 1<<16-1 || !ok {
		t.Error(i, ok)
	}
}

// B2

func TestNextAndCount(t *testing.T) {
	for _, bound := range []int{0, 1, 2, 3, 63, 64, 65, 127, 128, 129, 200} {
		l := some(bound)
		checkAsked(t, with(t, bound, l), bound, l)
		for from := -3; from <= bound+3; from++ {
			b := with(t, bound, l)
			checkNext(t, b, bound, l, from)
			for to := -3; to <= bound+3; to++ {
				if n := b.Count(from, to); n != len(within(l, from, to)) {
					t.Fatalf("Count(%d, %d) below %d: %d", from, to, bound, n)
				}
			}
		}
	}
}

func TestNextAndCountOfFewInTheGreatestSet(t *testing.T) {
	for _, l := range [][]int{{}, {0}, {1<<16 - 1}, {0, 1<<16 - 1}, {63, 64, 1 << 15}, {1<<16 - 65, 1<<16 - 64, 1<<16 - 2}} {
		checkAsked(t, with(t, 1<<16, l), 1<<16, l)
	}
}

func TestNextFromWhatIsIn(t *testing.T) {
	b := with(t, 100, []int{7, 63, 64, 99})
	for from, want := range map[int]int{-1: 7, 0: 7, 7: 7, 8: 63, 63: 63, 64: 64, 65: 99, 99: 99} {
		if i, ok := b.Next(from); i != want || !ok {
			t.Errorf("Next(%d): %d, %v", from, i, ok)
		}
	}
	if i, ok := b.Next(100); i != 0 || ok {
		t.Error(i, ok)
	}
	b.Clear(99)
	if i, ok := b.Next(65); i != 0 || ok {
		t.Error("behind the greatest one:", i, ok)
	}
}

func TestAskingChangesNothing(t *testing.T) {
	l := some(130)
	b := with(t, 130, l)
	for _, i := range far(130) {
		b.Has(i)
		b.Next(i)
		b.Count(i, i)
		b.Count(i, 130)
		b.Count(0, i)
	}
	if !slices.Equal(told(t, b), l) {
		t.Error(told(t, b))
	}
}

func TestExample(t *testing.T) {
	b := New(100)
	if !b.Set(3) || !b.Set(70) {
		t.Error("not set")
	}
	if i, ok := b.Next(4); i != 70 || !ok {
		t.Error(i, ok)
	}
	if n := b.Count(0, 70); n != 1 {
		t.Error(n)
	}
}

// B3

func TestManyCallsAgainstAList(t *testing.T) {
	for _, bound := range []int{0, 1, 64, 65, 150} {
		b := New(bound)
		in := make([]bool, bound)
		next := numbers(uint64(bound) + 1)
		for step := range 4000 {
			i := next(bound+6) - 3
			may := i >= 0 && i < bound
			before := may && in[i]
			if next(2) == 0 {
				if was := b.Clear(i); was != before {
					t.Fatalf("step %d below %d: Clear(%d): %v", step, bound, i, was)
				}
				mark(in, i, false)
			} else {
				if was := b.Set(i); was != (may && !before) {
					t.Fatalf("step %d below %d: Set(%d): %v", step, bound, i, was)
				}
				mark(in, i, true)
			}
			checkTheorem(t, b, list(in), next(bound+6)-3, next(bound+6)-3, next(bound+6)-3)
		}
	}
}

// mark notes whether a number is in, if it may be.
func mark(in []bool, i int, is bool) {
	if i >= 0 && i < len(in) {
		in[i] = is
	}
}

// checkTheorem holds what Next tells, and what Count does of three cuts, against what is in.
func checkTheorem(t *testing.T, b *Bitmap, want []int, cuts ...int) {
	t.Helper()
	if l := told(t, b); !slices.Equal(l, want) {
		t.Fatalf("Next tells %v, not %v", l, want)
	}
	if n := b.Count(math.MinInt, math.MaxInt); n != len(want) {
		t.Fatalf("Count tells %d of %v", n, want)
	}
	slices.Sort(cuts)
	from, between, to := cuts[0], cuts[1], cuts[2]
	if b.Count(from, between)+b.Count(between, to) != b.Count(from, to) {
		t.Fatalf("Counts of %v do not add up", cuts)
	}
	if b.Count(to, from) != 0 || b.Count(from, from) != 0 {
		t.Fatalf("there are some in a stretch without numbers: %v", cuts)
	}
}

// list is the places of a list that are true.
func list(in []bool) []int {
	var l []int
	for i, is := range in {
		if is {
			l = append(l, i)
		}
	}
	return l
}

// numbers tells numbers below a bound, always the same ones for a seed.
func numbers(seed uint64) func(bound int) int {
	return func(bound int) int {
		seed = seed*6364136223846793005 + 1442695040888963407
		return int(seed>>33) % bound
	}
}

// R4

func TestSetsKnowNothingOfOneAnother(t *testing.T) {
	a, b := with(t, 100, []int{1, 64}), with(t, 100, []int{2, 64})
	a.Set(50)
	a.Clear(64)
	if l := told(t, b); !slices.Equal(l, []int{2, 64}) {
		t.Error(l)
	}
	if l := told(t, New(100)); len(l) != 0 {
		t.Error(l)
	}
}
