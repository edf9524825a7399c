package class

import (
	"math"
	"slices"
	"testing"
)

// written are the sizes as the chapter tells them, written out, so that nothing of the package is held against itself.
func written() []int {
	return []int{
		4, 6, 8, 12, 16, 24, 32, 48, 64, 96, 128, 192, 256, 384, 512, 768, 1024, 1536, 2048, 3072,
		4096, 6144, 8192, 12288, 16384, 24576, 32768, 49152, 65536,
	}
}

const greatest = 1 << 16

// below are numbers below 1, the least int among them.
func below() []int {
	return []int{math.MinInt, math.MinInt + 1, -1 << 62, -1 << 32, -1<<32 + 4, -65537, -65536, -65535, -6, -5, -4, -3, -2, -1, 0}
}

// beyond are numbers above the greatest size, the greatest int among them.
func beyond() []int {
	return []int{
		65537, 65538, 98303, 98304, 98305, 131072, 1 << 20, 1<<32 - 1, 1 << 32, 1<<32 + 1, 1<<32 + 4, 1 << 61, 3 << 60,
		1 << 62, 1<<62 + 1, 3 << 61, math.MaxInt - 1, math.MaxInt,
	}
}

// leastPlace is the place of the least size that is n or above, told by a look at each.
func leastPlace(n int) int {
	for place, size := range written() {
		if size >= n {
			return place
		}
	}
	return len(written()) - 1
}

// C1

func TestSizes(t *testing.T) {
	for most := 1; most <= greatest; most++ {
		want := written()[:leastPlace(most)+1]
		if got := Sizes(most); !slices.Equal(got, want) {
			t.Fatalf("Sizes(%d): %v, not %v", most, got, want)
		}
	}
}

func TestSizesAtEdges(t *testing.T) {
	for _, x := range []struct {
		most int
		want []int
	}{
		{1, []int{4}}, {3, []int{4}}, {4, []int{4}},
		{5, []int{4, 6}}, {6, []int{4, 6}},
		{7, []int{4, 6, 8}}, {8, []int{4, 6, 8}},
		{9, []int{4, 6, 8, 12}}, {12, []int{4, 6, 8, 12}},
		{13, []int{4, 6, 8, 12, 16}},
		{32, []int{4, 6, 8, 12, 16, 24, 32}},
		{49151, written()[:28]}, {49152, written()[:28]}, {49153, written()},
		{65535, written()}, {65536, written()},
	} {
		if got := Sizes(x.most); !slices.Equal(got, x.want) {
			t.Errorf("Sizes(%d): %v, not %v", x.most, got, x.want)
		}
	}
}

func TestSizesBeyond(t *testing.T) {
	for _, most := range beyond() {
		if got := Sizes(most); !slices.Equal(got, written()) {
			t.Errorf("Sizes(%d): %v, not those of 2^16", most, got)
		}
	}
}

func TestSizesBelow(t *testing.T) {
	for _, most := range below() {
		if got := Sizes(most); len(got) != 0 {
			t.Errorf("Sizes(%d): %v, not nothing", most, got)
		}
	}
}

func TestSizesRule(t *testing.T) {
	for place, size := range Sizes(greatest) {
		want := 4 << (place / 2)
		if place%2 == 1 {
			want = 6 << (place / 2)
		}
		if size != want {
			t.Errorf("size %d is %d, not %d", place, size, want)
		}
	}
}

// C2

func TestClassAndRound(t *testing.T) {
	for n := 1; n <= greatest; n++ {
		checkN(t, n, leastPlace(n), written()[leastPlace(n)], true)
	}
}

func TestClassAndRoundAboutSizes(t *testing.T) {
	for place, size := range written() {
		checkN(t, size, place, size, true)
		if place > 0 {
			checkN(t, size-1, place, size, true)
			checkN(t, written()[place-1]+1, place, size, true)
		}
	}
	for n := 1; n <= 4; n++ {
		checkN(t, n, 0, 4, true)
	}
	checkN(t, greatest+1, 0, 0, false)
}

func TestClassAndRoundOfWrong(t *testing.T) {
	for _, n := range slices.Concat(below(), beyond()) {
		checkN(t, n, 0, 0, false)
	}
}

func checkN(t *testing.T, n, place, size int, ok bool) {
	t.Helper()
	if got, told := Class(n); got != place || told != ok {
		t.Errorf("Class(%d): %d, %v, not %d, %v", n, got, told, place, ok)
	}
	if got, told := Round(n); got != size || told != ok {
		t.Errorf("Round(%d): %d, %v, not %d, %v", n, got, told, size, ok)
	}
}

// C3

func TestRoundOfASize(t *testing.T) {
	for _, size := range Sizes(greatest) {
		if got, ok := Round(size); got != size || !ok {
			t.Errorf("Round(%d): %d, %v", size, got, ok)
		}
	}
}

func TestRoundRises(t *testing.T) {
	before := 0
	for n := 1; n <= greatest; n++ {
		got, _ := Round(n)
		if got < n || got < before {
			t.Fatalf("Round(%d): %d, behind %d", n, got, before)
		}
		if n >= 3 && 2*(got-n) > n {
			t.Fatalf("Round(%d): %d, more than half of it is lost", n, got)
		}
		before = got
	}
}

func TestSizesAreWhatRoundHas(t *testing.T) {
	var had []int
	for n := 1; n <= greatest; n++ {
		if got, _ := Round(n); len(had) == 0 || had[len(had)-1] != got {
			had = append(had, got)
		}
	}
	if got := Sizes(greatest); !slices.Equal(got, had) {
		t.Errorf("Sizes: %v, Round has %v", got, had)
	}
}

func TestClassIsThePlaceOfRound(t *testing.T) {
	sizes := Sizes(greatest)
	for n := 1; n <= greatest; n++ {
		place, _ := Class(n)
		if size, _ := Round(n); place < 0 || place >= len(sizes) || sizes[place] != size {
			t.Fatalf("Class(%d): %d, Round: %d", n, place, size)
		}
	}
}

// R3 and R4

func TestSizesAreNewMemory(t *testing.T) {
	for _, most := range []int{1, 4, 5, 9, 100, 3000, greatest, math.MaxInt} {
		first, second := Sizes(most), Sizes(most)
		want := slices.Clone(second)
		spoil(first)
		if !slices.Equal(second, want) {
			t.Errorf("Sizes(%d): an answer is changed by another's owner: %v", most, second)
		}
		if third := Sizes(most); !slices.Equal(third, want) {
			t.Errorf("Sizes(%d), asked for again: %v, not %v", most, third, want)
		}
	}
	checkN(t, 5, 1, 6, true)
	checkN(t, greatest, 28, greatest, true)
}

// spoil writes into a list, into its spare room too, and grows it.
func spoil(l []int) {
	l = l[:cap(l)]
	for i := range l {
		l[i] = -7
	}
	_ = append(l, -8)
}

func TestAnswersHangOnArgumentsAlone(t *testing.T) {
	ns := slices.Concat(below(), []int{1, 2, 4, 5, 9, 1000, 65535, greatest}, beyond())
	for range 3 {
		for _, n := range ns {
			Sizes(n)
			Class(n)
			Round(n)
			checkN(t, 5, 1, 6, true)
			if got := Sizes(9); !slices.Equal(got, []int{4, 6, 8, 12}) {
				t.Fatalf("Sizes(9) behind calls with %d: %v", n, got)
			}
		}
	}
}

// the way

func TestRisingGoesOnAsLongAsAsked(t *testing.T) {
	asked := 0
	for place, size := range rising() {
		want := 4 << (place / 2)
		if place%2 == 1 {
			want = 6 << (place / 2)
		}
		if place != asked || size != want {
			t.Fatalf("place %d, size %d, asked for place %d", place, size, asked)
		}
		if asked++; asked == 100 {
			break
		}
	}
	if asked != 100 {
		t.Errorf("it ended behind %d", asked)
	}
}

func TestRisingLeavesOff(t *testing.T) {
	for last := range 12 {
		asked := 0
		rising()(func(place, _ int) bool {
			asked++
			return place < last
		})
		if asked != last+1 {
			t.Errorf("left off at place %d, asked %d times", last, asked)
		}
	}
}
