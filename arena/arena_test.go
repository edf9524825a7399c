package arena

import (
	"math"
	"math/big"
	"slices"
	"testing"

	"middenheap/api"
)

// fresh is an arena of so many words, each of them its place and 100.
func fresh(t *testing.T, words int) *Arena {
	t.Helper()
	a, e := New(words)
	if e != api.OK || a == nil {
		t.Fatalf("New(%d): %v", words, e)
	}
	for at := range words {
		if e := a.Store(at, uint64(100+at)); e != api.OK {
			t.Fatalf("Store(%d): %v", at, e)
		}
	}
	return a
}

// all is what an arena's words are.
func all(t *testing.T, a *Arena) []uint64 {
	t.Helper()
	var l []uint64
	for at := range a.Len() {
		w, e := a.Load(at)
		if e != api.OK {
			t.Fatalf("Load(%d): %v", at, e)
		}
		l = append(l, w)
	}
	return l
}

// far are numbers about the ends of an arena of so many words, and the least and the greatest ones.
func far(words int) []int {
	return []int{
		math.MinInt, math.MinInt + 1, -1 << 32, -words, -2, -1, 0, 1, 2, words - 2, words - 1, words, words + 1, 2 * words,
		1 << 16, 1<<16 + 1, 1 << 32, 1 << 62, math.MaxInt - words, math.MaxInt - 1, math.MaxInt,
	}
}

// lie tells whether the n words from a place on are among so many: A3's condition, in whole numbers that never go round.
func lie(words, at, n int) bool {
	sum := new(big.Int).Add(big.NewInt(int64(at)), big.NewInt(int64(n)))
	return n >= 0 && at >= 0 && sum.Cmp(big.NewInt(int64(words))) <= 0
}

// A1

func TestNew(t *testing.T) {
	for _, words := range []int{1, 2, 3, 16, 1000, 1<<16 - 1, 1 << 16} {
		a, e := New(words)
		if e != api.OK || a == nil || a.Len() != words {
			t.Fatalf("New(%d): %v", words, e)
		}
		if l := all(t, a); slices.ContainsFunc(l, func(w uint64) bool { return w != 0 }) {
			t.Errorf("New(%d): not all are 0", words)
		}
		if _, e := a.Load(words); e != api.ErrAddr {
			t.Errorf("New(%d): there is one beyond", words)
		}
	}
}

func TestNewRefuses(t *testing.T) {
	for _, words := range []int{0, -1, -2, -1 << 16, math.MinInt, math.MinInt + 1, 1<<16 + 1, 1 << 17, 1 << 32, 1<<32 + 1, math.MaxInt - 1, math.MaxInt} {
		if a, e := New(words); a != nil || e != api.ErrArg {
			t.Errorf("New(%d): %v, %v", words, a, e)
		}
	}
}

func TestLenStays(t *testing.T) {
	a := fresh(t, 5)
	a.Store(4, 1)
	a.Store(5, 1)
	a.Fill(0, 5, 2)
	a.Fill(0, 6, 2)
	a.Move(0, 1, 4)
	a.Move(0, 1, 5)
	if a.Len() != 5 {
		t.Error(a.Len())
	}
}

// A2

func TestLoadAndStore(t *testing.T) {
	for _, words := range []int{1, 2, 7, 1 << 16} {
		a := fresh(t, words)
		for _, at := range []int{0, words / 2, words - 1} {
			for _, w := range []uint64{0, 1, 1 << 63, ^uint64(0), 5} {
				if e := a.Store(at, w); e != api.OK {
					t.Fatal(words, at, e)
				}
				if got, e := a.Load(at); got != w || e != api.OK {
					t.Fatal(words, at, got, e)
				}
			}
		}
	}
}

func TestLoadAndStoreRefuse(t *testing.T) {
	for _, words := range []int{1, 2, 7, 1 << 16} {
		a := fresh(t, words)
		before := all(t, a)
		for _, at := range far(words) {
			if lie(words, at, 1) {
				continue
			}
			if w, e := a.Load(at); w != 0 || e != api.ErrAddr {
				t.Errorf("Load(%d) of %d: %d, %v", at, words, w, e)
			}
			if e := a.Store(at, 9); e != api.ErrAddr {
				t.Errorf("Store(%d) of %d: %v", at, words, e)
			}
		}
		if !slices.Equal(all(t, a), before) {
			t.Errorf("%d: changed", words)
		}
	}
}

// A3

func TestFill(t *testing.T) {
	for words := 1; words <= 8; words++ {
		for _, at := range far(words) {
			for _, n := range far(words) {
				checkFill(t, words, at, n)
			}
		}
	}
}

func checkFill(t *testing.T, words, at, n int) {
	t.Helper()
	a := fresh(t, words)
	want, wantE := all(t, a), api.ErrAddr
	if lie(words, at, n) {
		wantE = api.OK
		for i := at; i < at+n; i++ {
			want[i] = 7
		}
	}
	if e := a.Fill(at, n, 7); e != wantE || !slices.Equal(all(t, a), want) {
		t.Fatalf("Fill(%d, %d) of %d: %v, %v", at, n, words, e, all(t, a))
	}
}

func TestFillOfTheGreatestArena(t *testing.T) {
	a := fresh(t, 1<<16)
	if e := a.Fill(0, 1<<16+1, 3); e != api.ErrAddr {
		t.Error(e)
	}
	if e := a.Fill(1, 1<<16, 3); e != api.ErrAddr {
		t.Error(e)
	}
	if w, _ := a.Load(1<<16 - 1); w != 100+1<<16-1 {
		t.Error(w)
	}
	if e := a.Fill(1<<16, 0, 3); e != api.OK {
		t.Error(e)
	}
	if e := a.Fill(0, 1<<16, ^uint64(0)); e != api.OK {
		t.Error(e)
	}
	if slices.ContainsFunc(all(t, a), func(w uint64) bool { return w != ^uint64(0) }) {
		t.Error("not all")
	}
}

func TestMove(t *testing.T) {
	for words := 1; words <= 5; words++ {
		for _, from := range far(words) {
			for _, to := range far(words) {
				for _, n := range far(words) {
					checkMove(t, words, from, to, n)
				}
			}
		}
	}
	for from := range 12 {
		for to := range 12 {
			for n := range 13 {
				checkMove(t, 12, from, to, n)
			}
		}
	}
}

func checkMove(t *testing.T, words, from, to, n int) {
	t.Helper()
	a := fresh(t, words)
	before, wantE := all(t, a), api.ErrAddr
	want := slices.Clone(before)
	if lie(words, from, n) && lie(words, to, n) {
		wantE = api.OK
		for i := range n {
			want[to+i] = before[from+i]
		}
	}
	if e := a.Move(from, to, n); e != wantE || !slices.Equal(all(t, a), want) {
		t.Fatalf("Move(%d, %d, %d) of %d: %v, %v", from, to, n, words, e, all(t, a))
	}
}

func TestMoveOfTheGreatestArena(t *testing.T) {
	a := fresh(t, 1<<16)
	before := all(t, a)
	if a.Move(0, 1, 1<<16) != api.ErrAddr || a.Move(1, 0, 1<<16) != api.ErrAddr || !slices.Equal(all(t, a), before) {
		t.Error("beyond the last word")
	}
	if a.Move(0, 0, 1<<16) != api.OK || !slices.Equal(all(t, a), before) {
		t.Error("where they are")
	}
	if a.Move(0, 1, 1<<16-1) != api.OK || !slices.Equal(all(t, a), append([]uint64{100}, before[:1<<16-1]...)) {
		t.Error("up by one")
	}
	if a.Move(1, 0, 1<<16-1) != api.OK || !slices.Equal(all(t, a)[:1<<16-1], before[:1<<16-1]) {
		t.Error("down by one")
	}
}

func TestExample(t *testing.T) {
	a, _ := New(3)
	a.Store(2, 7)
	a.Move(1, 0, 2)
	if w, e := a.Load(1); w != 7 || e != api.OK {
		t.Error(w, e)
	}
}

// A4

func TestManyCallsAgainstAList(t *testing.T) {
	const words = 40
	a, _ := New(words)
	list := make([]uint64, words)
	seed := uint64(1)
	next := func(bound int) int {
		seed = seed*6364136223846793005 + 1442695040888963407
		return int(seed>>33) % bound
	}
	for step := range 20000 {
		at, to, n, w := next(words+4)-2, next(words+4)-2, next(12)-1, seed
		var e, want api.Errno
		switch next(3) {
		case 0:
			e, want = a.Store(at, w), storeInto(list, at, w)
		case 1:
			e, want = a.Fill(at, n, w), fillInto(list, at, n, w)
		case 2:
			e, want = a.Move(at, to, n), moveWithin(list, at, to, n)
		}
		if e != want || !slices.Equal(all(t, a), list) {
			t.Fatalf("step %d: %v, not %v", step, e, want)
		}
	}
}

func storeInto(list []uint64, at int, w uint64) api.Errno {
	return fillInto(list, at, 1, w)
}

func fillInto(list []uint64, at, n int, w uint64) api.Errno {
	if !lie(len(list), at, n) {
		return api.ErrAddr
	}
	for i := range n {
		list[at+i] = w
	}
	return api.OK
}

func moveWithin(list []uint64, from, to, n int) api.Errno {
	if !lie(len(list), from, n) || !lie(len(list), to, n) {
		return api.ErrAddr
	}
	before := slices.Clone(list)
	for i := range n {
		list[to+i] = before[from+i]
	}
	return api.OK
}

// R4

func TestArenasKnowNothingOfOneAnother(t *testing.T) {
	a, b := fresh(t, 6), fresh(t, 6)
	before := all(t, b)
	a.Store(1, 1)
	a.Fill(2, 3, 9)
	a.Move(0, 2, 4)
	if !slices.Equal(all(t, b), before) {
		t.Error(all(t, b))
	}
	if c, _ := New(6); !slices.Equal(all(t, c), make([]uint64, 6)) {
		t.Error(all(t, c))
	}
}
