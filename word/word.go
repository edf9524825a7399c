// Package word is layer 1: parts of words of 64 bits. See shared/doc/01-word.md.
package word

import (
	"iter"

	"middenheap/api"
)

// bits is how many a word has.
const bits = 64

// Right tells whether a part may be: it has a bit at least, and all its bits lie in a word.
func Right(p api.Part) bool {
	if p.Shift < 0 || p.Shift >= bits || p.Width < 1 || p.Width > bits {
		return false // here, so that the sum below can't go round
	}
	return p.Shift+p.Width <= bits
}

// Mask is the word in which just a part's bits are 1; 0, if the part is not right.
func Mask(p api.Part) uint64 {
	if !Right(p) {
		return 0
	}
	return most(p) << p.Shift
}

// most is the greatest number that a right part holds.
func most(p api.Part) uint64 {
	return ^uint64(0) >> (bits - p.Width)
}

// Get is the number that a word has in a part; 0, if the part is not right.
func Get(w uint64, p api.Part) uint64 {
	if !Right(p) {
		return 0
	}
	return w >> p.Shift & most(p)
}

// Set is a word with v in a part; the word as it was and false, if the part is not right, or v has more bits.
func Set(w uint64, p api.Part, v uint64) (uint64, bool) {
	if !Right(p) || v > most(p) {
		return w, false
	}
	return w&^Mask(p) | v<<p.Shift, true
}

// Pack lays numbers into a word, the first one lowest, each one as wide as its width; false, if they may not lie so.
func Pack(widths []int, l []uint64) (uint64, bool) {
	if len(widths) != len(l) {
		return 0, false
	}
	w := uint64(0)
	for i, p := range parts(widths) {
		next, ok := Set(w, p, l[i])
		if !ok {
			return 0, false
		}
		w = next
	}
	return w, true
}

// Unpack takes the numbers out that Pack laid into a word; false, if it can't have been so.
func Unpack(widths []int, w uint64) ([]uint64, bool) {
	var l []uint64
	above := w
	for _, p := range parts(widths) {
		if !Right(p) {
			return nil, false
		}
		l = append(l, Get(w, p))
		above &^= Mask(p)
	}
	if above != 0 {
		return nil, false
	}
	return l, true
}

// parts goes through widths as parts of a word, each above the one ahead of it, by their places.
// The first part that is not right is the last one: it is told, so that whoever asks may refuse it, but those above it would lie nowhere.
func parts(widths []int) iter.Seq2[int, api.Part] {
	return func(yield func(int, api.Part) bool) {
		shift := 0
		for i, width := range widths {
			p := api.Part{Shift: shift, Width: width}
			if !yield(i, p) || !Right(p) {
				return
			}
			shift += width
		}
	}
}

// Zig is a number as one that is not below 0: 2n, or -2n-1 of an n below 0.
func Zig(n int) uint64 {
	// The sign's bit, spread over the word, turns all bits of an n below 0; nothing is reckoned that could go round.
	return uint64(n)<<1 ^ uint64(n>>(bits-1))
}

// Zag is the number of which w is Zig.
func Zag(w uint64) int {
	return int(w>>1) ^ -int(w&1)
}
