// Package tally is layer 2: see shared/doc/02-tally.md.
package tally

import (
	"bytes"
	"iter"

	"punchcut/word"
)

// Whole is what a file comes to.
const Whole = 0xb1b0afba

const wordSize = 4

// words goes through p, padded, word by word.
func words(p []byte) iter.Seq[uint32] {
	return func(yield func(uint32) bool) {
		r := word.New(Pad(p))
		for r.Left() > 0 {
			if !yield(r.U32()) {
				return
			}
		}
	}
}

// Sum adds up the words of p, padded, modulo 2^32.
func Sum(p []byte) uint32 {
	var sum uint32
	for w := range words(p) {
		sum += w
	}
	return sum
}

// Pad is p with noughts behind it up to a multiple of four bytes.
func Pad(p []byte) []byte {
	padded := make([]byte, (len(p)+wordSize-1)/wordSize*wordSize)
	copy(padded, p)
	return padded
}

// Adjust is what p lacks to come to Whole, modulo 2^32.
func Adjust(p []byte) uint32 { return Whole - Sum(p) }

// Zeroed is p with noughts at those of the n places from at on that it has.
func Zeroed(p []byte, at, n int) []byte {
	zeroed := bytes.Clone(p)
	from, to := span(len(p), at, n)
	clear(zeroed[from:to])
	return zeroed
}

// span is which of size places are among the n from at on; it adds only where the sum can't leave an int.
func span(size, at, n int) (from, to int) {
	n = max(n, 0)
	if at < 0 {
		n = max(n+at, 0)
		at = 0
	}
	at = min(at, size)
	return at, at + min(n, size-at)
}
