// Package check is layer 1: whole numbers of 64 bits, reckoned without ever going round. See shared/doc/01-check.md.
package check

import (
	"math"

	"analemma/api"
)

// Add is a sum.
func Add(a, b int64) (int64, api.Errno) {
	s := a + b
	// A sum that went round lies on the wrong side of a.
	if (s < a) != (b < 0) {
		return 0, api.ErrOver
	}
	return s, api.OK
}

// Sub is a difference.
func Sub(a, b int64) (int64, api.Errno) {
	d := a - b
	// A difference that went round lies on the wrong side of a.
	if (d > a) != (b < 0) {
		return 0, api.ErrOver
	}
	return d, api.OK
}

// Mul is a product.
func Mul(a, b int64) (int64, api.Errno) {
	if b == 0 {
		return 0, api.OK
	}
	// A product that went round isn't divided back into a, but for one:
	// -2^63 times -1 goes round to -2^63, and so does the way back.
	if refusal(a, b) != api.OK || a*b/b != a {
		return 0, api.ErrOver
	}
	return a * b, api.OK
}

// Neg is a number with the other sign.
func Neg(a int64) (int64, api.Errno) { return Sub(0, a) }

// Abs is a number without its sign.
func Abs(a int64) (int64, api.Errno) {
	if a < 0 {
		return Neg(a)
	}
	return a, api.OK
}

// Div is a quotient, rounded down, and the rest.
func Div(a, b int64) (int64, int64, api.Errno) {
	if e := refusal(a, b); e != api.OK {
		return 0, 0, e
	}
	q, r := a/b, a%b
	// The language rounds towards 0, which is up where the signs differ.
	if r != 0 && (r < 0) != (b < 0) {
		return q - 1, r + b, api.OK
	}
	return q, r, api.OK
}

// Euclid is a quotient whose rest is not below 0, and that rest.
func Euclid(a, b int64) (int64, int64, api.Errno) {
	q, r, e := Div(a, b)
	// Only a b below -1 leaves such a rest, so that q is far from the greatest number.
	if r < 0 {
		return q + 1, r - b, e
	}
	return q, r, e
}

// refusal tells why a may not be divided by b; OK, if it may.
func refusal(a, b int64) api.Errno {
	switch {
	case b == 0:
		return api.ErrZero
	case a == math.MinInt64 && b == -1:
		return api.ErrOver
	}
	return api.OK
}
