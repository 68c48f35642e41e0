// Package fault has the errors inside: what went wrong, and where.
package fault

import (
	"errors"
	"strconv"

	"coffer/api"
)

// Kind is what went wrong. errors.Is asks for one kind, errors.As for any.
type Kind api.Errno

// The kinds have the numbers that callers are told.
const (
	Crash  = Kind(api.ErrCrash)
	Name   = Kind(api.ErrName)
	Plan   = Kind(api.ErrPlan)
	Big    = Kind(api.ErrBig)
	Twice  = Kind(api.ErrTwice)
	Full   = Kind(api.ErrFull)
	Tape   = Kind(api.ErrTape)
	Down   = Kind(api.ErrDown)
	None   = Kind(api.ErrNone)
	Few    = Kind(api.ErrFew)
	Mode   = Kind(api.ErrMode)
	Bad    = Kind(api.ErrBad)
	Store  = Kind(api.ErrStore)
	Place  = Kind(api.ErrPlace)
	Images = Kind(api.ErrImages)
)

func (k Kind) Error() string {
	switch k {
	case Crash:
		return "crashed"
	case Name:
		return "no name for an object"
	case Plan:
		return "no plan for so many stores"
	case Big:
		return "no size of a value"
	case Twice:
		return "there is such an object already"
	case Full:
		return "there is room for no more"
	case Tape:
		return "the tape is too short"
	case Down:
		return "the store is down"
	case None:
		return "there is no such object"
	case Few:
		return "too few pieces"
	case Mode:
		return "not a thing to do in this mode"
	case Bad:
		return "not what it must be"
	case Store:
		return "no store, or one that was named already"
	case Place:
		return "no byte of a shard"
	case Images:
		return "not what lies at stores"
	}
	return "error " + strconv.Itoa(int(k))
}

// Located is an error with where it came up. errors.As asks for the outermost.
type Located struct {
	Where string
	Err   error
}

func (l *Located) Error() string { return l.Where + ": " + l.Err.Error() }

func (l *Located) Unwrap() error { return l.Err }

// At wraps err by where it came up. What is no error stays none, so that a
// check's answer can be handed on as it is.
func At(where string, err error) error {
	if err == nil {
		return nil
	}
	return &Located{Where: where, Err: err}
}

// AtCount wraps err by how many there were.
func AtCount(count int, what string, err error) error {
	return At(strconv.Itoa(count)+" "+what, err)
}

// AtStore wraps err by the store where it came up.
func AtStore(store int, err error) error {
	return At("store "+strconv.Itoa(store), err)
}

// Told is an error of one kind that came of another. The caller is told the
// kind, which errors.As finds first; errors.Is finds both.
type Told struct {
	Kind Kind
	Err  error
}

func (t *Told) Error() string { return t.Kind.Error() + ": " + t.Err.Error() }

func (t *Told) Unwrap() []error { return []error{t.Kind, t.Err} }

// As wraps err by the kind that the caller is told. What is no error stays
// none.
func As(kind Kind, err error) error {
	if err == nil {
		return nil
	}
	return &Told{Kind: kind, Err: err}
}

// Number is what the caller of a call is told of err.
func Number(err error) api.Errno {
	if err == nil {
		return api.OK
	}
	var kind Kind
	if errors.As(err, &kind) {
		return api.Errno(kind)
	}
	// An error of no kind must not pass for success.
	return api.ErrBad
}
