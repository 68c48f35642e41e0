package polynomial

import (
	"testing"

	"coffer/field"
)

func TestAt(t *testing.T) {
	for _, c := range []struct {
		p       Polynomial
		x, want field.Element
	}{
		{nil, 5, 0}, {Polynomial{7}, 200, 7}, {Polynomial{96, 1}, 1, 97}, {Polynomial{96, 1}, 3, 99}, {Polynomial{0, 0, 1}, 2, 4}, {Polynomial{1, 2}, 128, 26}, {Polynomial{9, 8, 7}, 0, 9},
	} {
		if got := c.p.At(c.x); got != c.want {
			t.Errorf("%v at %d = %d, want %d", c.p, c.x, got, c.want)
		}
	}
}

func TestBases(t *testing.T) {
	for _, xs := range [][]field.Element{
		nil, {0}, {255}, {1, 2}, {128, 192}, {128, 129, 130, 192, 193}, {8, 7, 6, 5, 4, 3, 2, 1},
	} {
		bases := Bases(xs)
		if len(bases) != len(xs) {
			t.Fatalf("Bases(%v) are %d", xs, len(bases))
		}
		for i, p := range bases {
			checkBasis(t, p, xs, i)
		}
	}
}

func checkBasis(t *testing.T, p Polynomial, xs []field.Element, one int) {
	t.Helper()
	if len(p) != len(xs) {
		t.Errorf("basis %d of %v has %d coefficients", one, xs, len(p))
	}
	for j, x := range xs {
		want := field.Element(0)
		if j == one {
			want = 1
		}
		if got := p.At(x); got != want {
			t.Errorf("basis %d of %v at %d = %d, want %d", one, xs, x, got, want)
		}
	}
}
