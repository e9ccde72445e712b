// Package limb is layer 1: whole numbers of 256 bits. See shared/doc/01-limb.md.
package limb

import (
	"math/bits"
	"strings"

	"isthmus/api"
)

// chunk is the greatest power of ten in a limb; its zeros are how many digits one division yields.
const (
	chunk       = 10_000_000_000_000_000_000
	chunkDigits = 19
)

// size is how many bytes a number has.
const size = 32

// Of: n.
func Of(n uint64) api.U {
	return api.U{n}
}

// Cmp: -1, 0 or 1.
func Cmp(a, b api.U) int {
	if a == b {
		return 0
	}
	if _, fits := Sub(a, b); fits {
		return 1
	}
	return -1
}

// Zero: is it 0?
func Zero(a api.U) bool {
	return a == api.U{}
}

// Add: the sum; does it fit?
func Add(a, b api.U) (api.U, bool) {
	var sum api.U
	var carry uint64
	for i := range a {
		sum[i], carry = bits.Add64(a[i], b[i], carry)
	}
	if carry != 0 {
		return api.U{}, false
	}
	return sum, true
}

// Sub: the difference; does it fit?
func Sub(a, b api.U) (api.U, bool) {
	var rest api.U
	var borrow uint64
	for i := range a {
		rest[i], borrow = bits.Sub64(a[i], b[i], borrow)
	}
	if borrow != 0 {
		return api.U{}, false
	}
	return rest, true
}

// Mul: the product; does it fit?
func Mul(a api.U, k uint64) (api.U, bool) {
	var product api.U
	var over uint64
	for i := range a {
		high, low := bits.Mul64(a[i], k)
		sum, carry := bits.Add64(low, over, 0)
		// high is at most 2^64 - 2, so that the carry has room in it
		product[i], over = sum, high+carry
	}
	if over != 0 {
		return api.U{}, false
	}
	return product, true
}

// Div: the quotient and the remainder.
func Div(a api.U, k uint64) (api.U, uint64) {
	if k == 0 {
		return api.U{}, 0
	}
	var quotient api.U
	var rest uint64
	for i := len(a) - 1; i >= 0; i-- {
		quotient[i], rest = bits.Div64(rest, a[i], k)
	}
	return quotient, rest
}

// Print: its digits.
func Print(a api.U) string {
	if Zero(a) {
		return "0"
	}
	var backward []byte
	for !Zero(a) {
		var rest uint64
		a, rest = Div(a, chunk)
		for range chunkDigits {
			backward = append(backward, '0'+byte(rest%10))
			rest /= 10
		}
	}
	for len(backward) > 1 && backward[len(backward)-1] == '0' {
		backward = backward[:len(backward)-1]
	}
	digits := make([]byte, len(backward))
	for i, d := range backward {
		digits[len(digits)-1-i] = d
	}
	return string(digits)
}

// Parse: the number that digits are.
func Parse(s string) (api.U, api.Errno) {
	if !decimal(s) {
		return api.U{}, api.ErrNumber
	}
	var sum api.U
	for i := 0; i < len(s); i++ {
		tens, fits := Mul(sum, 10)
		if !fits {
			return api.U{}, api.ErrOver
		}
		sum, fits = Add(tens, Of(uint64(s[i]-'0')))
		if !fits {
			return api.U{}, api.ErrOver
		}
	}
	return sum, api.OK
}

// decimal: is it digits alone, without a 0 ahead but for 0 itself?
func decimal(s string) bool {
	if s == "" || len(s) > 1 && s[0] == '0' {
		return false
	}
	return strings.Trim(s, "0123456789") == ""
}

// Bytes: its 32 bytes.
func Bytes(a api.U) []byte {
	b := make([]byte, size)
	for i := range b {
		low := size - 1 - i
		b[i] = byte(a[low/8] >> (8 * (low % 8)))
	}
	return b
}

// From: the number that 32 bytes are.
func From(b []byte) (api.U, api.Errno) {
	if len(b) != size {
		return api.U{}, api.ErrForm
	}
	var a api.U
	for i, x := range b {
		low := size - 1 - i
		a[low/8] |= uint64(x) << (8 * (low % 8))
	}
	return a, api.OK
}
