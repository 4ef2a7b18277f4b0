// Package coin is layer 1: words of a script. See shared/doc/01-coin.md.
package coin

import (
	"archipelago/api"
	"math/bits"
)

// factor spreads what was mixed over all bits of a word: it is odd, so that no two words come to one by it.
const factor uint32 = 0x9E3779B1

// At: a script's word, going round.
func At(script []uint32, i int) uint32 {
	if i < 0 || len(script) == 0 {
		return 0
	}
	return script[i%len(script)]
}

// Height: of a node, by its word.
func Height(word uint32) int {
	return min(bits.TrailingZeros32(word)+1, api.MaxHeight)
}

// Bits: n of a word's, from one of them on.
func Bits(word uint32, from, n uint8) uint32 {
	// A shift by 32 or more leaves nothing of a word: so of 32 bits or more the mask is all ones.
	mask := uint32(1)<<n - 1
	return word >> from & mask
}

// Signed: the lowest n bits, with a sign.
func Signed(word uint32, n uint8) int32 {
	// The bit n - 1 goes up to where the sign is, and comes back with it; of no bits all goes out.
	up := 32 - min(n, 32)
	return int32(word<<up) >> up
}

// Mix: two words, mixed.
func Mix(a, b uint32) uint32 {
	return (bits.RotateLeft32(a, 5) ^ b) * factor
}

// Halves: of a number.
func Halves(x uint64) (high, low uint32) {
	return uint32(x >> 32), uint32(x)
}

// Whole: of halves.
func Whole(high, low uint32) uint64 {
	return uint64(high)<<32 | uint64(low)
}

// Pick: one of n, from 0 on.
func Pick(word uint32, n int) int {
	if n < 1 {
		return 0
	}
	// In 64 bits, since an int of 32 doesn't hold each word.
	return int(uint64(word) % uint64(n))
}
