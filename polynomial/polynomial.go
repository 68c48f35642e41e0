// Package polynomial has the polynomials whose coefficients are elements.
package polynomial

import (
	"coffer/field"
	"coffer/row"
)

// Polynomial has at i the coefficient of x to the i.
type Polynomial []field.Element

// At is the value of p at x.
func (p Polynomial) At(x field.Element) field.Element {
	var value field.Element
	for i := len(p) - 1; i >= 0; i-- {
		value = value.Times(x) ^ p[i]
	}
	return value
}

// Bases has for each of xs, which must differ, the polynomial of a degree
// below their number that is 1 there and 0 at the others. So the polynomial
// through points at xs is the sum of these, each times the y of its point.
func Bases(xs []field.Element) []Polynomial {
	bases := make([]Polynomial, len(xs))
	for i := range xs {
		bases[i] = basis(xs, i)
	}
	return bases
}

func basis(xs []field.Element, one int) Polynomial {
	p := Polynomial{1}
	for i, x := range xs {
		if i != one {
			p = p.withRoot(x)
		}
	}
	return row.Scaled(p, p.At(xs[one]).Inverse())
}

// withRoot is p times the polynomial x - root.
func (p Polynomial) withRoot(root field.Element) Polynomial {
	timesX := append(Polynomial{0}, p...)
	return row.Sum(timesX, row.Scaled(p, root))
}
