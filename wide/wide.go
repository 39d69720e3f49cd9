// Package wide is layer 1: 128-bit integers (chapter doc/01-wide.md).
package wide

import (
	"math/bits"
	"strconv"
	"strings"

	"merestone/api"
)

// The greatest power of ten that 64 bits hold: Text needs two chunks at most.
const (
	chunk       = 10_000_000_000_000_000_000
	chunkDigits = 19
)

// number is needed because api's type can't have methods here.
type number struct{ api.Int }

// Of answers n as an Int.
func Of(n int) api.Int {
	return api.Int{Hi: int64(n) >> 63, Lo: uint64(n)}
}

// Mul answers the product of a and b, for which 128 bits are always enough.
func Mul(a, b int) api.Int {
	hi, lo := bits.Mul64(uint64(a), uint64(b))
	// As a word, a number below 0 is 2^64 too great, so its product's high half has the other factor once too often.
	if a < 0 {
		hi -= uint64(b)
	}
	if b < 0 {
		hi -= uint64(a)
	}
	return api.Int{Hi: int64(hi), Lo: lo}
}

// Add answers the sum of a and b.
func Add(a, b api.Int) (api.Int, api.Errno) {
	return Total(a, b)
}

// Sub answers a without b. It isn't Add of -b, as the least number has no such one.
func Sub(a, b api.Int) (api.Int, api.Errno) {
	diff, fits := number{a}.minus(number{b})
	if !fits {
		return api.Int{}, api.ErrRange
	}
	return diff.Int, api.OK
}

// Total answers the sum of all, from the left; it gives up at the first sum that doesn't fit, even if a later one would fit again.
func Total(list ...api.Int) (api.Int, api.Errno) {
	var sum number
	for _, a := range list {
		next, fits := sum.plus(number{a})
		if !fits {
			return api.Int{}, api.ErrRange
		}
		sum = next
	}
	return sum.Int, api.OK
}

// Sign answers -1, 0 or 1.
func Sign(a api.Int) int {
	return Compare(a, api.Int{})
}

// Compare answers -1, 0 or 1, as a is below b, the same, or above it.
func Compare(a, b api.Int) int {
	switch {
	case a == b:
		return 0
	case number{a}.below(number{b}):
		return -1
	}
	return 1
}

// Text answers a in decimal digits.
func Text(a api.Int) string {
	n := number{a}
	hi, lo := n.size()
	// Div64 asks for hi below the divisor: it is at most 2^63.
	high, low := bits.Div64(hi, lo, chunk)
	digits := strconv.FormatUint(low, 10)
	if high > 0 {
		digits = strconv.FormatUint(high, 10) + strings.Repeat("0", chunkDigits-len(digits)) + digits
	}
	if n.negative() {
		return "-" + digits
	}
	return digits
}

func (n number) negative() bool {
	return n.Hi < 0
}

func (n number) below(m number) bool {
	if n.Hi != m.Hi {
		return n.Hi < m.Hi
	}
	return n.Lo < m.Lo
}

// plus also answers whether the sum fits: only two of one sign can leave the range, and then their sum has the other sign.
func (n number) plus(m number) (sum number, fits bool) {
	lo, carry := bits.Add64(n.Lo, m.Lo, 0)
	hi, _ := bits.Add64(uint64(n.Hi), uint64(m.Hi), carry)
	sum = number{api.Int{Hi: int64(hi), Lo: lo}}
	return sum, n.negative() != m.negative() || n.negative() == sum.negative()
}

// minus also answers whether the difference fits: only two of different signs can leave the range, and then it has not n's sign.
func (n number) minus(m number) (diff number, fits bool) {
	lo, borrow := bits.Sub64(n.Lo, m.Lo, 0)
	hi, _ := bits.Sub64(uint64(n.Hi), uint64(m.Hi), borrow)
	diff = number{api.Int{Hi: int64(hi), Lo: lo}}
	return diff, n.negative() == m.negative() || n.negative() == diff.negative()
}

// size answers two words, not an Int: that of the least number, 2^127, is none.
func (n number) size() (hi, lo uint64) {
	if !n.negative() {
		return uint64(n.Hi), n.Lo
	}
	lo, borrow := bits.Sub64(0, n.Lo, 0)
	hi, _ = bits.Sub64(0, uint64(n.Hi), borrow)
	return hi, lo
}
