package coffer_test

import (
	"math"
	"slices"
	"strings"
	"testing"

	"coffer/api"
	"coffer/coffer"
)

func piece(store int, bytes string) api.Piece { return api.Piece{Store: store, Bytes: bytes} }

func TestJoinExamples(t *testing.T) {
	for _, c := range []struct {
		pieces []api.Piece
		p      api.Plan
		n      int
		size   int
		want   string
	}{
		{[]api.Piece{piece(1, "b"), piece(2, "c")}, disperse(2), 3, 2, "ab"},
		{[]api.Piece{piece(2, "c"), piece(1, "b")}, disperse(2), 3, 2, "ab"},
		{[]api.Piece{piece(1, "b"), piece(2, "c")}, disperse(2), 3, 1, "a"},
		{[]api.Piece{piece(1, "\x07")}, share(1, 1), 2, 1, "\x07"},
		{[]api.Piece{piece(0, "\x01"), piece(2, "\x03")}, share(2, 1), 3, 1, "\x80"},
		{[]api.Piece{piece(2, ""), piece(0, "")}, share(2, 1), 3, 0, ""},
		// Only the first two are looked at.
		{[]api.Piece{piece(2, "c"), piece(0, "a"), piece(1, "?")}, disperse(2), 3, 2, "ab"},
	} {
		got, e := coffer.Join(c.pieces, c.p, c.n, c.size)
		if e != api.OK || got != c.want {
			t.Errorf("Join(%v, %v, %d, %d) = %q, %d, want %q", c.pieces, c.p, c.n, c.size, got, e, c.want)
		}
	}
}

// orders are some orders of the pieces: as they are, backward, and turned.
func orders(pieces []api.Piece) [][]api.Piece {
	backward := slices.Clone(pieces)
	slices.Reverse(backward)
	half := len(pieces) / 2
	return [][]api.Piece{pieces, backward, slices.Concat(pieces[half:], pieces[:half])}
}

func TestJoinOfAllPlans(t *testing.T) {
	for n := 1; n <= api.MaxStores; n++ {
		for i, p := range plans(n) {
			all := sizes(p)
			for _, size := range []int{0, all[i%len(all)], api.MaxValue} {
				checkJoin(t, noise(size, uint32(n)), p, n)
			}
		}
	}
}

// checkJoin joins every choice of the pieces of a value.
func checkJoin(t *testing.T, value string, p api.Plan, n int) {
	t.Helper()
	made, e := coffer.Split(value, p, n, noise(tapeNeed(p, len(value)), 5))
	if e != api.OK {
		t.Fatalf("Split(%q, %v, %d) = %d", value, p, n, e)
	}
	for choice := range 1 << n {
		var chosen []api.Piece
		for i, bytes := range made {
			if choice>>i&1 == 1 {
				chosen = append(chosen, piece(i, bytes))
			}
		}
		want, wantErr := value, api.OK
		if len(chosen) < threshold(p) {
			want, wantErr = "", api.ErrFew
		}
		for _, pieces := range orders(chosen) {
			if got, e := coffer.Join(pieces, p, n, len(value)); got != want || e != wantErr {
				t.Fatalf("Join(%v, %v, %d, %d) = %q, %d, want %q, %d", pieces, p, n, len(value), got, e, want, wantErr)
			}
		}
	}
}

// Pieces that Split did not make are pieces of some value too, and those
// behind the first, as many as the threshold, must be nothing to it.
func TestJoinOfAnyPieces(t *testing.T) {
	for n := 1; n <= api.MaxStores; n++ {
		for _, p := range plans(n) {
			for _, size := range sizes(p) {
				var pieces []api.Piece
				for i := range n {
					// 13 has no divisor in common with any n, so that each store comes once.
					pieces = append(pieces, piece((i*13+2)%n, noise(groupCount(p, size), uint32(i*size+n))))
				}
				want := referenceJoin(pieces, p, size)
				if got, e := coffer.Join(pieces, p, n, size); e != api.OK || got != want {
					t.Errorf("Join(%v, %v, %d, %d) = %q, %d, want %q", pieces, p, n, size, got, e, want)
				}
			}
		}
	}
}

func TestJoinErrors(t *testing.T) {
	p := share(2, 2)
	good := []api.Piece{piece(0, "ab"), piece(1, "ab"), piece(2, "ab"), piece(3, "ab")}
	with := func(at int, other api.Piece) []api.Piece {
		pieces := slices.Clone(good)
		pieces[at] = other
		return pieces
	}
	for _, c := range []struct {
		what   string
		pieces []api.Piece
		p      api.Plan
		n      int
		size   int
		e      api.Errno
	}{
		{"all is well", good, p, 4, 3, api.OK},
		{"no plan ahead of all else", with(0, piece(9, "")), share(4, 2), 4, 61, api.ErrPlan},
		{"no stores", good, p, 0, 61, api.ErrPlan},
		{"a store too many", good, p, 9, -1, api.ErrPlan},
		{"too big ahead of a wrong store", with(0, piece(9, "")), p, 4, 61, api.ErrBig},
		{"below nought ahead of a wrong store", with(0, piece(9, "")), p, 4, -1, api.ErrBig},
		{"the greatest size", good, p, 4, math.MaxInt, api.ErrBig},
		{"the least size", good, p, 4, math.MinInt, api.ErrBig},
		{"too big ahead of too few", nil, p, 4, 61, api.ErrBig},
		{"the store below the first", with(3, piece(-1, "ab")), p, 4, 3, api.ErrStore},
		{"the store behind the last", with(3, piece(4, "ab")), p, 4, 3, api.ErrStore},
		{"the greatest store", with(3, piece(math.MaxInt, "ab")), p, 4, 3, api.ErrStore},
		{"the least store", with(3, piece(math.MinInt, "ab")), p, 4, 3, api.ErrStore},
		{"a store that wraps round to one", with(3, piece(256, "ab")), p, 4, 3, api.ErrStore},
		{"two of one", with(0, piece(3, "ab")), p, 4, 3, api.ErrStore},
		{"two of one behind the threshold", with(3, piece(0, "ab")), p, 4, 3, api.ErrStore},
		{"a wrong store behind a wrong length", []api.Piece{piece(0, "a"), piece(7, "ab")}, p, 4, 3, api.ErrStore},
		{"two of one, both of a wrong length", []api.Piece{piece(0, "a"), piece(0, "a")}, p, 4, 3, api.ErrStore},
		{"a wrong store ahead of too few", []api.Piece{piece(7, "ab")}, p, 4, 3, api.ErrStore},
		{"a byte too few", with(1, piece(1, "a")), p, 4, 3, api.ErrBad},
		{"a byte too many", with(1, piece(1, "abc")), p, 4, 3, api.ErrBad},
		{"a wrong length behind the threshold", with(3, piece(3, "")), p, 4, 3, api.ErrBad},
		{"bytes of a value of none", good, p, 4, 0, api.ErrBad},
		{"of a value of a group more", good, p, 4, 5, api.ErrBad},
		{"of a value of just the groups", good, p, 4, 4, api.OK},
		{"of a value of a group less", good, p, 4, 2, api.ErrBad},
		{"a wrong length ahead of too few", []api.Piece{piece(0, "a")}, p, 4, 3, api.ErrBad},
		{"one fewer than the threshold", good[:2], p, 4, 3, api.ErrFew},
		{"just the threshold", good[:3], p, 4, 3, api.OK},
		{"none", nil, p, 4, 3, api.ErrFew},
		{"none, of a value of no bytes", []api.Piece{}, share(1, 1), 1, 0, api.ErrFew},
	} {
		got, e := coffer.Join(c.pieces, c.p, c.n, c.size)
		if e != c.e || e != api.OK && got != "" || e == api.OK && len(got) != c.size {
			t.Errorf("%s: Join = %q, %d, want %d", c.what, got, e, c.e)
		}
	}
}

func TestJoinOfVeryManyPieces(t *testing.T) {
	pieces := slices.Repeat([]api.Piece{piece(0, "a")}, 1<<16)
	if got, e := coffer.Join(pieces, share(1, 1), 1, 1); got != "" || e != api.ErrStore {
		t.Errorf("Join = %q, %d, want ErrStore", got, e)
	}
}

func TestJoinLeavesWhatIsHandedIn(t *testing.T) {
	room := []api.Piece{piece(2, "c"), piece(1, "b"), piece(0, "?"), piece(9, "spare"), piece(-9, "room")}
	before := slices.Clone(room)
	for _, size := range []int{2, 1, 61, 7} {
		coffer.Join(room[:3], disperse(2), 3, size)
		if !slices.Equal(room, before) {
			t.Fatalf("Join of %d bytes made of %v %v", size, before, room)
		}
	}
	got, _ := coffer.Join(room[:3], disperse(2), 3, 2)
	for i := range room {
		room[i] = piece(0, strings.Repeat("w", 3))
	}
	if got != "ab" {
		t.Errorf("Join = %q after the list was written into, want %q", got, "ab")
	}
}
