// Package field has the arithmetic of the elements that pieces are made of.
package field

// Element is a byte, as a polynomial whose coefficients are its bits. The sum
// of two, and their difference too, is their exclusive or.
type Element byte

// Of x^8 + x^4 + x^3 + x + 1 these are the terms below x^8: x^8 is as much as
// they are.
const lowTerms = 1<<4 | 1<<3 | 1<<1 | 1

// Times is the product of a and b.
func (a Element) Times(b Element) Element {
	var product Element
	for ; b != 0; b >>= 1 {
		if b&1 == 1 {
			product ^= a
		}
		a = a.timesX()
	}
	return product
}

func (a Element) timesX() Element {
	if a&(1<<7) == 0 {
		return a << 1
	}
	return a<<1 ^ lowTerms
}

// Inverse is the element whose product with a is 1; that of 0, which has
// none, is told as 0.
func (a Element) Inverse() Element {
	// The 255th power of each element but 0 is 1, so the 254th is what is
	// asked for: 254 is 2 + 4 + 8 + 16 + 32 + 64 + 128.
	power, square := Element(1), a
	for range 7 {
		square = square.Times(square)
		power = power.Times(square)
	}
	return power
}
