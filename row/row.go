// Package row has what is the same for all lists of elements: the coefficients
// of a polynomial, the bytes of a group, the bytes of a piece.
package row

import "coffer/field"

// Filled is a new row of that length: r as far as it goes, and then noughts.
func Filled[R ~[]E, E ~byte](r R, length int) R {
	filled := make(R, length)
	copy(filled, r)
	return filled
}

// Sum adds a and b item by item; the shorter counts as filled up.
func Sum[R ~[]E, E ~byte](a, b R) R {
	sum := Filled(a, max(len(a), len(b)))
	for i, item := range b {
		sum[i] ^= item
	}
	return sum
}

// Scaled is r with each item multiplied by factor.
func Scaled[R ~[]E, E ~byte](r R, factor field.Element) R {
	scaled := make(R, len(r))
	for i, item := range r {
		scaled[i] = E(factor.Times(field.Element(item)))
	}
	return scaled
}
