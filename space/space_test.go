package space

import (
	"math"
	"math/big"
	"slices"
	"testing"

	"middenheap/api"
)

// most is the greatest Base and the greatest Size, written out, as are the sizes below: nothing of the program is held against itself.
const most = 1 << 16

// sizes are those of chapter 4.
func sizes() []int {
	return []int{
		4, 6, 8, 12, 16, 24, 32, 48, 64, 96, 128, 192, 256, 384, 512, 768, 1024, 1536, 2048, 3072,
		4096, 6144, 8192, 12288, 16384, 24576, 32768, 49152, 65536,
	}
}

// rounded is n rounded, by a look at each size; 0, if n is not 1 to 2^16.
func rounded(n int) int {
	if n < 1 || n > most {
		return 0
	}
	for _, size := range sizes() {
		if size >= n {
			return size
		}
	}
	return 0
}

// mayBe is S1's condition, in whole numbers that never go round.
func mayBe(s api.Space) bool {
	base, size, top := big.NewInt(int64(s.Base)), big.NewInt(int64(s.Size)), big.NewInt(int64(s.Top))
	end := new(big.Int).Add(base, size)
	return base.Sign() >= 0 && size.Sign() >= 0 && base.Cmp(big.NewInt(most)) <= 0 && size.Cmp(big.NewInt(most)) <= 0 &&
		top.Cmp(base) >= 0 && top.Cmp(end) <= 0
}

// edges are numbers about 0, about 2^16, and about where numbers go round.
func edges() []int {
	return []int{
		math.MinInt, math.MinInt + 1, math.MinInt + most, -1 << 62, -1 << 32, -1<<32 + 4, -most - 1, -most, -most + 1, -2, -1,
		0, 1, 2, 3, 4, 5, 6, 7, 100, most - 1, most, most + 1, 2*most - 1, 2 * most, 2*most + 1,
		1<<32 - 1, 1 << 32, 1<<32 + 4, 1 << 62, math.MaxInt - most, math.MaxInt - 1, math.MaxInt,
	}
}

// about are an edge of a space, and places about it; they may go round, as places do that are handed in wrong.
func about(at int) []int { return []int{at - 1, at, at + 1} }

// grid are spaces of all edges, whose Top is at edges too, and about Base, and Base and Size.
func grid() []api.Space {
	var l []api.Space
	for _, base := range edges() {
		for _, size := range edges() {
			tops := slices.Concat(edges(), about(base), about(base+size), []int{base + size/2})
			for _, top := range tops {
				l = append(l, api.Space{Base: base, Size: size, Top: top})
			}
		}
	}
	return l
}

// wrong are spaces that aren't right, each in one way alone as far as may be.
func wrong() []api.Space {
	return []api.Space{
		{Base: -1, Size: 10, Top: -1}, {Base: -1, Size: 10, Top: 0}, {Base: -1, Size: 10, Top: 5}, {Base: -10, Size: 20, Top: 0},
		{Base: -4, Size: 4, Top: 0}, {Base: -1, Size: 0, Top: -1}, {Base: math.MinInt, Size: 8, Top: math.MinInt},
		{Base: math.MinInt, Size: 8, Top: math.MinInt + 8}, {Base: math.MinInt, Size: most, Top: math.MinInt},
		{Base: 0, Size: -1, Top: 0}, {Base: 10, Size: -1, Top: 10}, {Base: 10, Size: -1, Top: 9}, {Base: 10, Size: -10, Top: 0},
		{Base: 10, Size: -5, Top: 7}, {Base: 10, Size: math.MinInt, Top: 10}, {Base: 0, Size: math.MinInt, Top: 0},
		{Base: most + 1, Size: 0, Top: most + 1}, {Base: most + 1, Size: 100, Top: most + 1}, {Base: most + 1, Size: 100, Top: most + 50},
		{Base: math.MaxInt, Size: 0, Top: math.MaxInt}, {Base: math.MaxInt, Size: 100, Top: math.MaxInt},
		{Base: math.MaxInt, Size: 100, Top: math.MinInt + 50}, {Base: math.MaxInt - 100, Size: 100, Top: math.MaxInt - 50},
		{Base: 0, Size: most + 1, Top: 0}, {Base: 0, Size: most + 1, Top: 100}, {Base: 0, Size: most + 1, Top: most + 1},
		{Base: 100, Size: math.MaxInt, Top: 100}, {Base: 100, Size: math.MaxInt, Top: 200}, {Base: 0, Size: math.MaxInt, Top: math.MaxInt},
		{Base: 10, Size: 20, Top: 9}, {Base: 10, Size: 20, Top: 0}, {Base: 10, Size: 20, Top: -1}, {Base: 0, Size: 20, Top: -1},
		{Base: 10, Size: 20, Top: math.MinInt}, {Base: 0, Size: 0, Top: -1}, {Base: most, Size: most, Top: most - 1},
		{Base: 10, Size: 20, Top: 31}, {Base: 10, Size: 20, Top: 100}, {Base: 0, Size: 20, Top: 21}, {Base: 0, Size: 0, Top: 1},
		{Base: 10, Size: 0, Top: 11}, {Base: 10, Size: 20, Top: math.MaxInt}, {Base: most, Size: most, Top: 2*most + 1},
		{Base: -1, Size: -1, Top: -1}, {Base: most + 1, Size: most + 1, Top: most + 1},
	}
}

// right are spaces that are right: of no words, empty ones, full ones, and some between, also with a Top that no Take brings about.
func right() []api.Space {
	return []api.Space{
		{}, {Base: 10, Top: 10}, {Base: most, Top: most}, {Base: 1, Size: 1, Top: 1}, {Base: 1, Size: 1, Top: 2},
		{Size: 1}, {Size: 1, Top: 1}, {Size: 3}, {Size: 4}, {Size: 4, Top: 1}, {Size: 4, Top: 4}, {Size: 5, Top: 1}, {Size: 9, Top: 4},
		{Base: 10, Size: 20, Top: 10}, {Base: 10, Size: 20, Top: 11}, {Base: 10, Size: 20, Top: 17}, {Base: 10, Size: 20, Top: 29},
		{Base: 10, Size: 20, Top: 30}, {Base: 16384, Size: 16384, Top: 20000}, {Size: most}, {Size: most, Top: 1}, {Size: most, Top: most - 1},
		{Size: most, Top: most}, {Base: 1, Size: most, Top: 1}, {Base: 1, Size: most, Top: most}, {Base: 1, Size: most, Top: most + 1},
		{Base: most, Size: 1, Top: most}, {Base: most, Size: 1, Top: most + 1}, {Base: most, Size: most, Top: most},
		{Base: most, Size: most, Top: most + 5}, {Base: most, Size: most, Top: 2*most - 1}, {Base: most, Size: most, Top: 2 * most},
	}
}

// numbers are those of words that are asked for: all edges, and about each size.
func numbers() []int {
	l := edges()
	for _, size := range sizes() {
		l = append(l, about(size)...)
	}
	return l
}

// made is Make of what may be.
func made(t *testing.T, base, size int) api.Space {
	t.Helper()
	s, ok := Make(base, size)
	if want := (api.Space{Base: base, Size: size, Top: base}); !ok || s != want {
		t.Fatalf("Make(%d, %d): %v, %v", base, size, s, ok)
	}
	return s
}

// checkTake holds a Take against S2: the space behind it, the place, and whether it is one.
func checkTake(t *testing.T, s api.Space, n int, behind api.Space, at int, ok bool) {
	t.Helper()
	if got, place, told := Take(s, n); got != behind || place != at || told != ok {
		t.Errorf("Take(%v, %d): %v, %d, %v, not %v, %d, %v", s, n, got, place, told, behind, at, ok)
	}
}

// checkRefused holds a Take against what S2 answers, where nothing is taken.
func checkRefused(t *testing.T, s api.Space, n int) {
	t.Helper()
	checkTake(t, s, n, s, 0, false)
}

// The chapter's example

func TestExample(t *testing.T) {
	s, ok := Make(10, 20)
	if want := (api.Space{Base: 10, Size: 20, Top: 10}); !ok || s != want {
		t.Fatalf("Make(10, 20): %v, %v", s, ok)
	}
	s, at, ok := Take(s, 5)
	if !ok || at != 10 {
		t.Errorf("the first Take(5): at %d, %v", at, ok)
	}
	s, at, ok = Take(s, 5)
	if !ok || at != 16 {
		t.Errorf("the second Take(5): at %d, %v", at, ok)
	}
	if got := Used(s); got != 12 {
		t.Errorf("Used: %d", got)
	}
	if want := (api.Space{Base: 10, Size: 20, Top: 22}); s != want {
		t.Errorf("it is %v", s)
	}
}

// S1

func TestRight(t *testing.T) {
	for _, s := range right() {
		if !Right(s) {
			t.Errorf("Right(%v): false", s)
		}
	}
	for _, s := range wrong() {
		if Right(s) {
			t.Errorf("Right(%v): true", s)
		}
	}
}

func TestRightOfAll(t *testing.T) {
	are := 0
	for _, s := range grid() {
		want := mayBe(s)
		if want {
			are++
		}
		if got := Right(s); got != want {
			t.Fatalf("Right(%v): %v", s, got)
		}
	}
	if are == 0 || are == len(grid()) {
		t.Errorf("of %d spaces %d are right", len(grid()), are)
	}
}

func TestRightTop(t *testing.T) {
	for _, x := range [][2]int{{0, 0}, {0, 1}, {1, 0}, {7, 9}, {10, 20}, {0, most}, {most, 0}, {most, most}} {
		base, size := x[0], x[1]
		for _, top := range slices.Concat(about(base), about(base+size)) {
			if got, want := Right(api.Space{Base: base, Size: size, Top: top}), top >= base && top <= base+size; got != want {
				t.Errorf("Right of Base %d, Size %d, Top %d: %v", base, size, top, got)
			}
		}
	}
	for top := range 50 {
		if got, want := Right(api.Space{Base: 10, Size: 20, Top: top}), top >= 10 && top <= 30; got != want {
			t.Errorf("Right of Base 10, Size 20, Top %d: %v", top, got)
		}
	}
}

func TestMake(t *testing.T) {
	for _, x := range [][2]int{
		{0, 0}, {0, 1}, {1, 0}, {1, 1}, {10, 20}, {0, 16}, {16384, 16384}, {0, most - 1}, {0, most}, {most - 1, 1}, {most - 1, most - 1},
		{most, 0}, {most, 1}, {1, most}, {most, most},
	} {
		if s := made(t, x[0], x[1]); !Right(s) {
			t.Errorf("Make(%d, %d) is not right", x[0], x[1])
		}
	}
}

func TestMakeRefuses(t *testing.T) {
	for _, x := range [][2]int{
		{-1, 0}, {0, -1}, {-1, -1}, {-1, 10}, {10, -1}, {-10, 20}, {most + 1, 0}, {0, most + 1}, {most + 1, 1}, {1, most + 1},
		{most + 1, most + 1}, {math.MinInt, 0}, {0, math.MinInt}, {math.MaxInt, 0}, {0, math.MaxInt}, {math.MaxInt, 1}, {1, math.MaxInt},
		{math.MaxInt, math.MaxInt}, {math.MinInt, math.MinInt}, {math.MinInt, math.MaxInt}, {math.MaxInt, math.MinInt}, {1 << 32, 4}, {4, 1 << 32},
	} {
		if s, ok := Make(x[0], x[1]); ok || s != (api.Space{}) {
			t.Errorf("Make(%d, %d): %v, %v", x[0], x[1], s, ok)
		}
	}
}

func TestMakeOfAll(t *testing.T) {
	for _, base := range edges() {
		for _, size := range edges() {
			want, may := api.Space{}, false
			if base >= 0 && base <= most && size >= 0 && size <= most {
				want, may = api.Space{Base: base, Size: size, Top: base}, true
			}
			if s, ok := Make(base, size); s != want || ok != may {
				t.Errorf("Make(%d, %d): %v, %v", base, size, s, ok)
			}
		}
	}
}

// S2

func TestTakeRoundsEachNumber(t *testing.T) {
	for _, base := range []int{0, 1, 10, most} {
		s := made(t, base, most)
		for n := 1; n <= most; n++ {
			checkTake(t, s, n, api.Space{Base: base, Size: most, Top: base + rounded(n)}, base, true)
		}
	}
}

func TestTakeFromTopOn(t *testing.T) {
	for _, x := range []struct {
		s      api.Space
		n, top int
	}{
		{api.Space{Base: 10, Size: 20, Top: 10}, 1, 14}, {api.Space{Base: 10, Size: 20, Top: 10}, 4, 14},
		{api.Space{Base: 10, Size: 20, Top: 16}, 5, 22}, {api.Space{Base: 10, Size: 20, Top: 17}, 9, 29},
		{api.Space{Base: 10, Size: 20, Top: 26}, 3, 30}, {api.Space{Base: 0, Size: 4, Top: 0}, 2, 4},
		{api.Space{Base: 0, Size: 5, Top: 1}, 4, 5}, {api.Space{Base: most, Size: most, Top: most}, most, 2 * most},
		{api.Space{Base: most, Size: most, Top: 2*most - 4}, 4, 2 * most}, {api.Space{Base: 0, Size: most, Top: 0}, 49153, most},
		{api.Space{Base: 3, Size: 49152, Top: 3}, 32769, 49155},
	} {
		checkTake(t, x.s, x.n, api.Space{Base: x.s.Base, Size: x.s.Size, Top: x.top}, x.s.Top, true)
	}
}

func TestTakeWhatIsLeft(t *testing.T) {
	for n := 1; n <= most; n++ {
		words := rounded(n)
		for _, x := range [][2]int{{0, 0}, {10, 0}, {7, 5}, {most, most - words}} {
			base, used := x[0], min(x[1], most-words)
			exact := api.Space{Base: base, Size: used + words, Top: base + used}
			checkTake(t, exact, n, api.Space{Base: base, Size: used + words, Top: base + used + words}, base+used, true)
			checkRefused(t, api.Space{Base: base, Size: used + words - 1, Top: base + used}, n)
			if more := used + words + 1; more <= most {
				checkTake(t, api.Space{Base: base, Size: more, Top: base + used}, n, api.Space{Base: base, Size: more, Top: base + used + words}, base+used, true)
			}
		}
		if t.Failed() {
			t.FailNow()
		}
	}
}

func TestTakeNeedsRoomForWhatIsRounded(t *testing.T) {
	for _, x := range [][2]int{{1, 3}, {3, 3}, {5, 5}, {7, 7}, {9, 11}, {49153, 65535}, {32769, 49151}} {
		checkRefused(t, made(t, 0, x[1]), x[0])
		checkRefused(t, made(t, 10, x[1]), x[0])
	}
	checkRefused(t, api.Space{Base: 0, Size: most, Top: 1}, 49153)
	checkRefused(t, api.Space{Base: 10, Size: 20, Top: 25}, 5)
	checkRefused(t, api.Space{Base: 10, Size: 20, Top: 27}, 1)
}

func TestTakeOfWrongNumbers(t *testing.T) {
	below := []int{0, -1, -2, -4, -5, -6, -20, -most - 1, -most, -1 << 32, -1<<32 + 4, -1 << 62, math.MinInt + 4, math.MinInt + 1, math.MinInt}
	beyond := []int{most + 1, most + 2, 98304, 2 * most, 2*most + 1, 1 << 32, 1<<32 + 4, 1 << 62, 1<<62 + 1, math.MaxInt - most, math.MaxInt - 1, math.MaxInt}
	for _, s := range right() {
		for _, n := range slices.Concat(below, beyond) {
			checkRefused(t, s, n)
		}
	}
}

func TestTakeOfNoWordsAndOfFullOnes(t *testing.T) {
	for _, s := range []api.Space{
		{}, {Base: 1, Top: 1}, {Base: 10, Top: 10}, {Base: most, Top: most}, {Size: 1, Top: 1}, {Base: 10, Size: 20, Top: 30},
		{Size: most, Top: most}, {Base: most, Size: most, Top: 2 * most},
	} {
		if got := Left(s); got != 0 {
			t.Errorf("Left(%v): %d", s, got)
		}
		for _, n := range numbers() {
			checkRefused(t, s, n)
		}
	}
}

func TestTakeOfAll(t *testing.T) {
	ns := numbers()
	for _, s := range grid() {
		for _, n := range ns {
			words := rounded(n)
			if words == 0 || !mayBe(s) || words > s.Base+s.Size-s.Top {
				checkRefused(t, s, n)
			} else {
				checkTake(t, s, n, api.Space{Base: s.Base, Size: s.Size, Top: s.Top + words}, s.Top, true)
			}
		}
		if t.Failed() {
			t.FailNow()
		}
	}
}

func TestUsedAndLeft(t *testing.T) {
	for _, x := range []struct {
		s          api.Space
		used, left int
	}{
		{api.Space{}, 0, 0}, {api.Space{Base: 10, Top: 10}, 0, 0}, {api.Space{Base: 10, Size: 20, Top: 10}, 0, 20},
		{api.Space{Base: 10, Size: 20, Top: 11}, 1, 19}, {api.Space{Base: 10, Size: 20, Top: 22}, 12, 8}, {api.Space{Base: 10, Size: 20, Top: 29}, 19, 1},
		{api.Space{Base: 10, Size: 20, Top: 30}, 20, 0}, {api.Space{Size: 1}, 0, 1}, {api.Space{Size: 1, Top: 1}, 1, 0},
		{api.Space{Size: most}, 0, most}, {api.Space{Size: most, Top: most}, most, 0}, {api.Space{Base: most, Size: most, Top: most}, 0, most},
		{api.Space{Base: most, Size: most, Top: most + 1}, 1, most - 1}, {api.Space{Base: most, Size: most, Top: 2 * most}, most, 0},
	} {
		if used, left := Used(x.s), Left(x.s); used != x.used || left != x.left {
			t.Errorf("%v: Used %d, Left %d, not %d and %d", x.s, used, left, x.used, x.left)
		}
	}
	for _, s := range grid() {
		used, left := 0, 0
		if mayBe(s) {
			used, left = s.Top-s.Base, s.Base+s.Size-s.Top
		}
		if gotUsed, gotLeft := Used(s), Left(s); gotUsed != used || gotLeft != left {
			t.Fatalf("%v: Used %d, Left %d, not %d and %d", s, gotUsed, gotLeft, used, left)
		}
	}
}

func TestHas(t *testing.T) {
	s := api.Space{Base: 10, Size: 20, Top: 22}
	for at := -5; at < 50; at++ {
		if got, want := Has(s, at), at >= 10 && at < 22; got != want {
			t.Errorf("Has(%v, %d): %v", s, at, got)
		}
	}
	for _, s := range right() {
		some := s.Top > s.Base
		for _, x := range []struct {
			at   int
			want bool
		}{
			{s.Base - 1, false}, {s.Base, some}, {s.Top - 1, some}, {s.Top, false}, {s.Top + 1, false}, {s.Base + s.Size, false},
			{s.Base + s.Size + 1, false}, {-1, false}, {-most, false}, {2*most + 1, false}, {math.MinInt, false}, {math.MinInt + 1, false},
			{math.MaxInt - 1, false}, {math.MaxInt, false},
		} {
			if got := Has(s, x.at); got != x.want {
				t.Errorf("Has(%v, %d): %v", s, x.at, got)
			}
		}
	}
}

func TestHasOfAll(t *testing.T) {
	for _, s := range grid() {
		may := mayBe(s)
		for _, at := range slices.Concat(edges(), about(s.Base), about(s.Top), about(s.Base+s.Size)) {
			if got, want := Has(s, at), may && s.Base <= at && at < s.Top; got != want {
				t.Fatalf("Has(%v, %d): %v", s, at, got)
			}
		}
	}
}

func TestEmpty(t *testing.T) {
	for _, s := range right() {
		if got, want := Empty(s), (api.Space{Base: s.Base, Size: s.Size, Top: s.Base}); got != want {
			t.Errorf("Empty(%v): %v", s, got)
		}
	}
	for _, s := range wrong() {
		if got := Empty(s); got != s {
			t.Errorf("Empty(%v): %v", s, got)
		}
	}
	for _, s := range grid() {
		want := s
		if mayBe(s) {
			want.Top = s.Base
		}
		if got := Empty(s); got != want {
			t.Fatalf("Empty(%v): %v, not %v", s, got, want)
		}
	}
}

func TestWrongSpacesInEveryCall(t *testing.T) {
	for _, s := range wrong() {
		for _, n := range numbers() {
			checkRefused(t, s, n)
		}
		if used, left := Used(s), Left(s); used != 0 || left != 0 {
			t.Errorf("%v: Used %d, Left %d", s, used, left)
		}
		for _, at := range slices.Concat(edges(), about(s.Base), about(s.Top), about(s.Base+s.Size), []int{10, 20, 50}) {
			if Has(s, at) {
				t.Errorf("Has(%v, %d)", s, at)
			}
		}
		if got := Empty(s); got != s {
			t.Errorf("Empty(%v): %v", s, got)
		}
	}
}

// S3

func TestTakenStretchesLieApart(t *testing.T) {
	rows := [][]int{
		{1}, {4}, {5}, {6}, {7, 1}, {3, 5, 9, 17, 33}, {100, 1, 60, 2, 30, 4, 5}, sizes(), {12, 0, 8, -1, 6, most + 1, 4}, {1000, 700, 1, 1, 64},
	}
	for _, base := range []int{0, 1, 10, 4096, most} {
		for _, size := range []int{0, 1, 3, 4, 5, 16, 20, 100, 1000, 16384, most - 1, most} {
			for _, row := range rows {
				takeAll(t, made(t, base, size), row)
			}
		}
	}
}

// takeAll takes a row of numbers, one after the other and over again, till a whole row of them is refused, and holds each Take against S3.
func takeAll(t *testing.T, s api.Space, row []int) {
	t.Helper()
	taken := make([]bool, s.Size)
	for refused, i := 0, 0; refused < len(row); i++ {
		n := row[i%len(row)]
		behind, at, ok := Take(s, n)
		if !ok {
			if words := rounded(n); behind != s || at != 0 || words > 0 && words <= s.Size-Used(s) {
				t.Fatalf("Take(%v, %d): %v, %d, refused", s, n, behind, at)
			}
			refused++
			continue
		}
		refused = 0
		if at != s.Base+Used(s) || Used(behind) != Used(s)+rounded(n) || Used(behind)+Left(behind) != s.Size || !Right(behind) {
			t.Fatalf("Take(%v, %d): %v, %d", s, n, behind, at)
		}
		lay(t, behind, taken, at, rounded(n))
		s = behind
	}
}

// lay marks the words of a stretch as taken, none of which was; that it is behind all others, the place and Used tell.
func lay(t *testing.T, s api.Space, taken []bool, at, words int) {
	t.Helper()
	first := at - s.Base
	if first < 0 || words < 1 || first+words > s.Size || slices.Contains(taken[first:first+words], true) {
		t.Fatalf("%v: %d words at %d touch others, or lie beyond", s, words, at)
	}
	for i := range words {
		taken[first+i] = true
		if !Has(s, at+i) {
			t.Fatalf("Has(%v, %d) behind a Take: false", s, at+i)
		}
	}
	if Has(s, at+words) {
		t.Fatalf("Has(%v, %d): true, and nothing is taken there", s, at+words)
	}
}

func TestEmptyIsTakenAnew(t *testing.T) {
	s := made(t, 10, 20)
	for range 3 {
		taken, at, ok := Take(s, 9)
		if !ok || at != 10 || Used(taken) != 12 || Left(taken) != 8 {
			t.Fatalf("Take(%v, 9): %v, %d, %v", s, taken, at, ok)
		}
		if !Has(taken, 10) || Has(Empty(taken), 10) {
			t.Errorf("Has(%v, 10)", taken)
		}
		s = Empty(taken)
	}
}

// R3 and R4

func TestAnswersHangOnArgumentsAlone(t *testing.T) {
	for _, s := range slices.Concat(wrong(), right()) {
		kept := s
		for range 3 {
			Take(s, 5)
			Empty(s)
			Make(s.Base, s.Size)
			if s != kept || Right(s) != mayBe(s) {
				t.Errorf("%v: it is %v behind other calls", kept, s)
			}
			checkTake(t, api.Space{Base: 10, Size: 20, Top: 16}, 5, api.Space{Base: 10, Size: 20, Top: 22}, 16, true)
		}
	}
}

func TestSpacesKnowNothingOfOneAnother(t *testing.T) {
	a, b := made(t, 10, 20), made(t, 10, 20)
	a, at, ok := Take(a, 5)
	if !ok || at != 10 || Used(b) != 0 {
		t.Errorf("at %d, %v; the other one: %v", at, ok, b)
	}
	b, at, ok = Take(b, 16)
	if !ok || at != 10 || Used(a) != 6 || Used(b) != 16 {
		t.Errorf("at %d, %v; %v and %v", at, ok, a, b)
	}
	if a == b || Empty(a) != Empty(b) {
		t.Errorf("%v and %v", a, b)
	}
}
