package field

import "testing"

// longProduct multiplies as the document says: the whole product first, and
// then what is left of it modulo x^8 + x^4 + x^3 + x + 1.
func longProduct(a, b Element) Element {
	var whole uint
	for i := range 8 {
		if b>>i&1 == 1 {
			whole ^= uint(a) << i
		}
	}
	for i := 14; i >= 8; i-- {
		if whole>>i&1 == 1 {
			whole ^= 0x11b << (i - 8)
		}
	}
	return Element(whole)
}

func TestTimesExamples(t *testing.T) {
	for _, c := range []struct{ a, b, want Element }{
		{2, 128, 27}, {83, 202, 1}, {0, 255, 0}, {255, 0, 0}, {1, 199, 199}, {199, 1, 199},
	} {
		if got := c.a.Times(c.b); got != c.want {
			t.Errorf("%d times %d = %d, want %d", c.a, c.b, got, c.want)
		}
	}
}

func TestTimesOfAll(t *testing.T) {
	for a := range 256 {
		for b := range 256 {
			if got, want := Element(a).Times(Element(b)), longProduct(Element(a), Element(b)); got != want {
				t.Fatalf("%d times %d = %d, want %d", a, b, got, want)
			}
		}
	}
}

func TestInverse(t *testing.T) {
	for a := 1; a < 256; a++ {
		if got := longProduct(Element(a), Element(a).Inverse()); got != 1 {
			t.Errorf("%d times its inverse = %d, want 1", a, got)
		}
	}
	if got := Element(0).Inverse(); got != 0 {
		t.Errorf("the inverse of 0 = %d, want 0", got)
	}
}
