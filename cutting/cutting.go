// Package cutting cuts values into pieces and puts them together again.
package cutting

import (
	"slices"

	"coffer/api"
	"coffer/fault"
	"coffer/field"
	"coffer/polynomial"
	"coffer/row"
)

// PieceLength tells how many bytes each piece of a value of size bytes has. Its
// errors are those that come ahead of the tape's and the pieces'.
func PieceLength(p api.Plan, n, size int) (int, error) {
	l, err := layoutFor(p, n, size)
	return l.groups, fault.At("plan", err)
}

// Split gives the pieces of a value, in the order of the n stores.
func Split(value string, p api.Plan, n int, tape string) ([][]byte, error) {
	l, err := layoutFor(p, n, len(value))
	if err != nil {
		return nil, fault.At("split", err)
	}
	if err := checkTape(tape, l.tapeNeed()); err != nil {
		return nil, fault.At("split", err)
	}
	from := slices.Concat(l.group, l.tape)
	rows := slices.Concat(
		dealt(value, len(l.group), l.groups),
		dealt(tape[:l.tapeNeed()], len(l.tape), l.groups),
	)
	return carried(from, rows, run(storeStart, n)), nil
}

// Join gives the value of size bytes of which the first pieces are pieces.
func Join(given []api.Piece, p api.Plan, n, size int) ([]byte, error) {
	l, err := layoutFor(p, n, size)
	if err != nil {
		return nil, fault.At("join", err)
	}
	if err := checkPieces(given, n, l); err != nil {
		return nil, fault.At("join", err)
	}
	var from []field.Element
	var rows [][]byte
	for _, piece := range given[:l.threshold()] {
		from = append(from, field.Element(storeStart+piece.Store))
		rows = append(rows, []byte(piece.Bytes))
	}
	return gathered(carried(from, rows, l.group), l.groups)[:size], nil
}

// carried takes polynomials, one for each place in the rows, from where they
// are known to where they are asked for: rows has what they are at each x of
// from, the answer what they are at each x of to.
func carried(from []field.Element, rows [][]byte, to []field.Element) [][]byte {
	bases := polynomial.Bases(from)
	asked := make([][]byte, len(to))
	for i, x := range to {
		for k, known := range rows {
			asked[i] = row.Sum(asked[i], row.Scaled(known, bases[k].At(x)))
		}
	}
	return asked
}

// dealt cuts text into groups of width bytes; the j-th row has the j-th byte
// of each group.
func dealt(text string, width, groups int) [][]byte {
	rows := make([][]byte, width)
	for i, b := range row.Filled([]byte(text), width*groups) {
		rows[i%width] = append(rows[i%width], b)
	}
	return rows
}

// gathered undoes dealt, but for what the last group was filled up with.
func gathered(rows [][]byte, groups int) []byte {
	var text []byte
	for g := range groups {
		for _, r := range rows {
			text = append(text, r[g])
		}
	}
	return text
}
