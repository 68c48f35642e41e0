package coffer_test

import (
	"strings"
	"sync"
	"testing"

	"coffer/api"
)

// What Split and Join answer is held against this: each group's polynomial by
// itself, by Lagrange's formula, with products and quotients of its own.

func product(a, b byte) byte {
	var whole int
	for i := range 8 {
		if b>>i&1 == 1 {
			whole ^= int(a) << i
		}
	}
	for i := 14; i >= 8; i-- {
		if whole>>i&1 == 1 {
			whole ^= 0x11b << (i - 8)
		}
	}
	return byte(whole)
}

// inverses has at each element but 0 the one with which its product is 1.
var inverses = sync.OnceValue(func() (table [256]byte) {
	for a := range 256 {
		for b := range 256 {
			if product(byte(a), byte(b)) == 1 {
				table[a] = byte(b)
			}
		}
	}
	return table
})

func quotient(a, b byte) byte { return product(a, inverses()[b]) }

// valueAt is, at x, the polynomial that is ys[i] at xs[i].
func valueAt(xs, ys []byte, x byte) byte {
	var sum byte
	for i := range xs {
		above, below := byte(1), byte(1)
		for j := range xs {
			if j != i {
				above = product(above, x^xs[j])
				below = product(below, xs[i]^xs[j])
			}
		}
		sum ^= product(ys[i], quotient(above, below))
	}
	return sum
}

func groupSize(p api.Plan) int {
	if p.Mode == api.Share {
		return p.L
	}
	return p.T
}

func groupCount(p api.Plan, size int) int {
	count := size / groupSize(p)
	if size%groupSize(p) != 0 {
		count++
	}
	return count
}

func threshold(p api.Plan) int {
	if p.Mode == api.Share {
		return p.T + p.L - 1
	}
	return p.T
}

func tapeNeed(p api.Plan, size int) int {
	if p.Mode == api.Share {
		return groupCount(p, size) * (p.T - 1)
	}
	return 0
}

// groupPlace is the x at which a polynomial is the j-th byte of its group.
func groupPlace(p api.Plan, j int) byte {
	if p.Mode == api.Share {
		return byte(128 + j)
	}
	return byte(j + 1)
}

func referenceSplit(value string, p api.Plan, n int, tape string) []string {
	pieces := make([]string, n)
	value += strings.Repeat("\x00", 8)
	for g := range groupCount(p, len(value)-8) {
		var xs, ys []byte
		for j := range groupSize(p) {
			xs = append(xs, groupPlace(p, j))
			ys = append(ys, value[g*groupSize(p)+j])
		}
		for r := 0; p.Mode == api.Share && r < p.T-1; r++ {
			xs = append(xs, byte(192+r))
			ys = append(ys, tape[g*(p.T-1)+r])
		}
		for i := range pieces {
			pieces[i] += string([]byte{valueAt(xs, ys, byte(i+1))})
		}
	}
	return pieces
}

func referenceJoin(pieces []api.Piece, p api.Plan, size int) string {
	var value []byte
	for g := range groupCount(p, size) {
		var xs, ys []byte
		for _, piece := range pieces[:threshold(p)] {
			xs = append(xs, byte(piece.Store+1))
			ys = append(ys, piece.Bytes[g])
		}
		for j := range groupSize(p) {
			value = append(value, valueAt(xs, ys, groupPlace(p, j)))
		}
	}
	return string(value[:size])
}

func share(t, l int) api.Plan { return api.Plan{Mode: api.Share, T: t, L: l} }

func disperse(t int) api.Plan { return api.Plan{Mode: api.Disperse, T: t, L: 1} }

// plans are all that there are for n stores.
func plans(n int) []api.Plan {
	var all []api.Plan
	for t := 1; t <= n; t++ {
		for l := 1; t+l-1 <= n; l++ {
			all = append(all, share(t, l))
		}
		all = append(all, disperse(t))
	}
	return all
}

// noise is bytes without a pattern that a mistake could keep.
func noise(size int, seed uint32) string {
	b := make([]byte, size)
	for i := range b {
		seed = seed*1664525 + 1013904223
		b[i] = byte(seed >> 24)
	}
	return string(b)
}

// sizes are those at which a plan's groups begin and end, and the limits.
func sizes(p api.Plan) []int {
	k := groupSize(p)
	return []int{0, 1, k - 1, k, k + 1, 2*k - 1, 2 * k, 17, api.MaxValue - 1, api.MaxValue}
}

func TestReferenceExamples(t *testing.T) {
	if product(2, 128) != 27 || product(83, 202) != 1 || quotient(1, 83) != 202 {
		t.Error("the reference's products are not the document's")
	}
	if got := valueAt([]byte{1, 2}, []byte{97, 98}, 3); got != 99 {
		t.Errorf("the reference's polynomial through (1, 97) and (2, 98) is %d at 3", got)
	}
}
