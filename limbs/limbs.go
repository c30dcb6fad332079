// Package limbs is layer 1: numbers of 192 bits. See shared/doc/01-limbs.md.
package limbs

import (
	"math/bits"
	"strconv"
	"strings"
)

// Three is a number of 192 bits: three of 64, the lowest first.
type Three [3]uint64

// The greatest power of ten that a limb holds: with it Decimal needs the fewest divisions.
const (
	chunk       = 10_000_000_000_000_000_000
	chunkDigits = 19
)

// Times: a product of 128 bits: the high half, and the low one.
func Times(a, b uint64) (uint64, uint64) { return bits.Mul64(a, b) }

// Add: the sum, going round; whether it did. Sub: the difference, likewise.
func Add(a, b Three) (Three, bool) {
	var carry uint64
	for i := range a {
		a[i], carry = bits.Add64(a[i], b[i], carry)
	}
	return a, carry != 0
}

func Sub(a, b Three) (Three, bool) {
	var borrow uint64
	for i := range a {
		a[i], borrow = bits.Sub64(a[i], b[i], borrow)
	}
	return a, borrow != 0
}

// Neg: what makes 0 with it, going round.
func Neg(a Three) Three {
	d, _ := Sub(Three{}, a)
	return d
}

// Scale: the lowest 192 bits of a product, and the 64 above.
func Scale(a Three, k uint64) (Three, uint64) {
	var above uint64
	for i := range a {
		high, low := Times(a[i], k)
		var carry uint64
		a[i], carry = bits.Add64(low, above, 0)
		// This can't go round: a high half is at most 2^64 - 2.
		above = high + carry
	}
	return a, above
}

// Compare: -1, 0 or 1: less, the same, greater.
func Compare(a, b Three) int {
	if a == b {
		return 0
	}
	if _, less := Sub(a, b); less {
		return -1
	}
	return 1
}

// Rest: what is left, divided by m; 0 of 0.
func Rest(a Three, m uint64) uint64 {
	if m == 0 {
		return 0
	}
	_, rest := divide(a, m)
	return rest
}

// divide: the quotient, and the rest; m isn't 0.
func divide(a Three, m uint64) (Three, uint64) {
	var rest uint64
	for i := len(a) - 1; i >= 0; i-- {
		// The rest is below m, so each quotient fits a limb, and Div64 doesn't panic.
		a[i], rest = bits.Div64(rest, a[i], m)
	}
	return a, rest
}

// Left: moved to higher bits, by so many; Right: to lower ones.
func Left(a Three, n int) Three {
	whole, part := split(n)
	var moved Three
	for i := whole; i < len(a); i++ {
		moved[i] = a[i-whole] << part
		if i > whole {
			// With no part this is a move by 64, which leaves 0.
			moved[i] |= a[i-whole-1] >> (64 - part)
		}
	}
	return moved
}

func Right(a Three, n int) Three {
	whole, part := split(n)
	var moved Three
	for i := 0; i+whole < len(a); i++ {
		moved[i] = a[i+whole] >> part
		if i+whole+1 < len(a) {
			moved[i] |= a[i+whole+1] << (64 - part)
		}
	}
	return moved
}

// split: by how many whole limbs, and by how many bits beyond these, n moves.
func split(n int) (int, uint) {
	n = min(max(n, 0), 192)
	return n / 64, uint(n % 64)
}

// Of: a number with a sign. Int: the number with a sign that it is; false: it is none of 64 bits.
func Of(n int) Three {
	sign := uint64(int64(n) >> 63)
	return Three{uint64(n), sign, sign}
}

func Int(a Three) (int, bool) {
	n := int(a[0])
	// The limbs above must be nothing but the sign of the lowest one.
	if Of(n) != a {
		return 0, false
	}
	return n, true
}

// Decimal: its decimal digits.
func Decimal(a Three) string {
	text := ""
	for {
		rest, low := divide(a, chunk)
		part := strconv.FormatUint(low, 10)
		if rest == (Three{}) {
			return part + text
		}
		// Noughts ahead of a part are dropped only where the number begins.
		text = strings.Repeat("0", chunkDigits-len(part)) + part + text
		a = rest
	}
}
