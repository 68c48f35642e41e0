package cutting

import (
	"coffer/api"
	"coffer/fault"
)

func checkTape(tape string, need int) error {
	if len(tape) >= need {
		return nil
	}
	return fault.AtCount(len(tape), "bytes", fault.Tape)
}

// checkPieces goes through all pieces for one kind of error ahead of the next:
// a wrong store comes ahead of a wrong length, whichever piece has it.
func checkPieces(given []api.Piece, n int, l layout) error {
	if err := checkStores(given, n); err != nil {
		return err
	}
	if err := checkLengths(given, l.groups); err != nil {
		return err
	}
	if len(given) < l.threshold() {
		return fault.AtCount(len(given), "pieces", fault.Few)
	}
	return nil
}

func checkStores(given []api.Piece, n int) error {
	var named [api.MaxStores]bool
	for _, piece := range given {
		if piece.Store < 0 || piece.Store >= n || named[piece.Store] {
			return fault.AtStore(piece.Store, fault.Store)
		}
		named[piece.Store] = true
	}
	return nil
}

func checkLengths(given []api.Piece, length int) error {
	for _, piece := range given {
		if len(piece.Bytes) != length {
			return fault.AtStore(piece.Store, fault.AtCount(len(piece.Bytes), "bytes", fault.Bad))
		}
	}
	return nil
}
