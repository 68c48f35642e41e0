package row

import (
	"slices"
	"testing"

	"coffer/field"
)

type named []field.Element

func TestFilled(t *testing.T) {
	for _, c := range []struct {
		r      []byte
		length int
		want   []byte
	}{
		{nil, 0, nil}, {nil, 2, []byte{0, 0}}, {[]byte{7}, 3, []byte{7, 0, 0}}, {[]byte{7, 8}, 2, []byte{7, 8}}, {[]byte{7, 8, 9}, 1, []byte{7}},
	} {
		if got := Filled(c.r, c.length); !slices.Equal(got, c.want) {
			t.Errorf("Filled(%v, %d) = %v, want %v", c.r, c.length, got, c.want)
		}
	}
}

func TestSum(t *testing.T) {
	for _, c := range []struct{ a, b, want named }{
		{nil, nil, nil}, {named{5}, named{3}, named{6}}, {named{5, 9}, named{3}, named{6, 9}}, {named{5}, named{3, 9}, named{6, 9}}, {nil, named{1, 2}, named{1, 2}}, {named{4}, named{4}, named{0}},
	} {
		if got := Sum(c.a, c.b); !slices.Equal(got, c.want) {
			t.Errorf("Sum(%v, %v) = %v, want %v", c.a, c.b, got, c.want)
		}
	}
}

func TestScaled(t *testing.T) {
	if got := Scaled([]byte{1, 128, 0}, 2); !slices.Equal(got, []byte{2, 27, 0}) {
		t.Errorf("Scaled of bytes = %v", got)
	}
	if got := Scaled(named{83, 1}, 202); !slices.Equal(got, named{1, 202}) {
		t.Errorf("Scaled of elements = %v", got)
	}
	if got := Scaled([]byte{9, 9}, 0); !slices.Equal(got, []byte{0, 0}) {
		t.Errorf("Scaled by nought = %v", got)
	}
}

func TestAnswersAreNewMemory(t *testing.T) {
	room := []byte{1, 2, 3, 4}
	a := room[:2]
	for _, got := range [][]byte{Filled(a, 2), Filled(a, 1), Sum(a, nil), Sum(nil, a), Sum(a, []byte{9, 9, 9}), Scaled(a, 1)} {
		for i := range got[:cap(got)] {
			got[:cap(got)][i] = 99
		}
	}
	if !slices.Equal(room, []byte{1, 2, 3, 4}) {
		t.Errorf("what was handed in became %v", room)
	}
}
