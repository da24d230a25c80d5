// Package bits is layer 1: words and halves, sums that don't run over, digits of six bits.
package bits

import "minuterie/api"

const (
	half  = 32
	whole = 64
	rest  = api.Bits * api.Levels
)

// parts is a number's digits by their levels, and its rest as the last one.
type parts [api.Levels + 1]uint64

// Lo: the lower 32 bits.
func Lo(n uint64) uint32 { return uint32(n) }

// Hi: the upper ones.
func Hi(n uint64) uint32 { return uint32(n >> half) }

// Join: the number of both.
func Join(hi, lo uint32) uint64 { return uint64(hi)<<half | uint64(lo) }

// Add: a sum, not beyond the greatest number.
func Add(a, b uint64) uint64 {
	if a > api.Never-b {
		return api.Never
	}
	return a + b
}

// Sub: a difference, not below 0.
func Sub(a, b uint64) uint64 {
	if b > a {
		return 0
	}
	return a - b
}

// Digit: that of a level.
func Digit(n uint64, level int) int {
	if level < 0 {
		return 0
	}
	// The level is bounded ahead of the product, which could run over otherwise.
	at := api.Bits * min(level, api.Levels)
	return int(n >> at & (api.Slots - 1))
}

// With: a number with a digit at a level, and noughts below.
func With(n uint64, level, digit int) uint64 {
	if level < 0 || level >= api.Levels {
		return n
	}
	at := api.Bits * level
	above := n &^ Mask(at+api.Bits)
	return above | uint64(digit&(api.Slots-1))<<at
}

func split(n uint64) parts {
	var p parts
	for level := range api.Levels {
		p[level] = uint64(Digit(n, level))
	}
	p[api.Levels] = n >> rest
	return p
}

// Top: the greatest level in which two numbers differ.
func Top(a, b uint64) int {
	x, y := split(a), split(b)
	top := -1
levels:
	for level := range len(x) {
		// What differs is cleared from below: the last one cleared is the top one.
		if x == y {
			break levels
		}
		x[level], y[level] = 0, 0
		top = level
	}
	return top
}

// First: the lowest bit from a place on.
func First(word uint64, from int) int {
	set := func(place int) bool { return word>>place&1 == 1 }
	for place := max(from, 0); place < whole; place++ {
		if set(place) {
			return place
		}
	}
	return -1
}

// Mask: a number whose lowest bits are set.
func Mask(n int) uint64 { return uint64(1)<<min(max(n, 0), whole) - 1 }

// Signed: a word with a sign.
func Signed(n uint32) int { return int(int32(n)) }

func inWord(low, width int) bool { return low >= 0 && low < half && width >= 1 }

// Field: some bits of a word.
func Field(n uint32, low, width int) uint32 {
	if !inWord(low, width) {
		return 0
	}
	return n >> low & Lo(Mask(width))
}

// Put: a word with other bits there.
func Put(n uint32, low, width int, v uint32) uint32 {
	if !inWord(low, width) {
		return n
	}
	place := Lo(Mask(width)) << low
	return n&^place | v<<low&place
}
