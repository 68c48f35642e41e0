// Package fault has the errors inside: what went wrong, and where.
package fault

import (
	"errors"
	"strconv"

	"coffer/api"
)

// Kind is what went wrong. errors.Is asks for one kind, errors.As for any.
type Kind api.Errno

// The kinds have the numbers that callers are told.
const (
	Plan  = Kind(api.ErrPlan)
	Big   = Kind(api.ErrBig)
	Tape  = Kind(api.ErrTape)
	Few   = Kind(api.ErrFew)
	Bad   = Kind(api.ErrBad)
	Store = Kind(api.ErrStore)
)

func (k Kind) Error() string {
	switch k {
	case Plan:
		return "no plan for so many stores"
	case Big:
		return "no size of a value"
	case Tape:
		return "the tape is too short"
	case Few:
		return "too few pieces"
	case Bad:
		return "not as many bytes as a piece must have"
	case Store:
		return "no store, or one that was named already"
	}
	return "error " + strconv.Itoa(int(k))
}

// Place is an error with where it came up. errors.As asks for the outermost.
type Place struct {
	Where string
	Err   error
}

func (p *Place) Error() string { return p.Where + ": " + p.Err.Error() }

func (p *Place) Unwrap() error { return p.Err }

// At wraps err by where it came up. What is no error stays none, so that a
// check's answer can be handed on as it is.
func At(where string, err error) error {
	if err == nil {
		return nil
	}
	return &Place{Where: where, Err: err}
}

// Number is what the caller of a call is told of err.
func Number(err error) api.Errno {
	if err == nil {
		return api.OK
	}
	var kind Kind
	if errors.As(err, &kind) {
		return api.Errno(kind)
	}
	// An error of no kind must not pass for success.
	return api.ErrBad
}
