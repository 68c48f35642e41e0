package fault

import (
	"errors"
	"testing"

	"coffer/api"
)

func TestNumber(t *testing.T) {
	for _, c := range []struct {
		err  error
		want api.Errno
	}{
		{nil, api.OK}, {Crash, api.ErrCrash}, {Images, api.ErrImages}, {Name, api.ErrName}, {Plan, api.ErrPlan}, {Big, api.ErrBig}, {Twice, api.ErrTwice}, {Full, api.ErrFull}, {Tape, api.ErrTape},
		{Down, api.ErrDown}, {None, api.ErrNone}, {Few, api.ErrFew}, {Mode, api.ErrMode}, {Bad, api.ErrBad}, {Store, api.ErrStore}, {Place, api.ErrPlace},
		{At("here", Tape), api.ErrTape}, {At("there", At("here", Few)), api.ErrFew}, {errors.New("of no kind"), api.ErrBad},
		{As(Images, Plan), api.ErrImages}, {At("there", As(Images, At("here", Tape))), api.ErrImages}, {As(Crash, errors.New("of no kind")), api.ErrCrash},
	} {
		if got := Number(c.err); got != c.want {
			t.Errorf("Number(%v) = %d, want %d", c.err, got, c.want)
		}
	}
}

func TestWrapped(t *testing.T) {
	err := At("there", At("here", Tape))
	if !errors.Is(err, Tape) || errors.Is(err, Few) {
		t.Errorf("errors.Is of %v asks for the wrong kind", err)
	}
	var place *Located
	if !errors.As(err, &place) || place.Where != "there" {
		t.Errorf("errors.As of %v finds the place %v", err, place)
	}
	if !errors.As(place.Err, &place) || place.Where != "here" {
		t.Errorf("errors.As below the outermost finds the place %v", place)
	}
	if got, want := err.Error(), "there: here: the tape is too short"; got != want {
		t.Errorf("the text is %q, want %q", got, want)
	}
	if At("here", nil) != nil || AtStore(3, nil) != nil || AtCount(3, "bytes", nil) != nil {
		t.Error("no error, wrapped, is one")
	}
	err = AtStore(7, AtCount(-1, "bytes", Bad))
	if got, want := err.Error(), "store 7: -1 bytes: not what it must be"; got != want || !errors.Is(err, Bad) {
		t.Errorf("the text is %q, want %q", got, want)
	}
}

func TestTold(t *testing.T) {
	err := At("there", As(Images, At("here", Plan)))
	if !errors.Is(err, Images) || !errors.Is(err, Plan) || errors.Is(err, Bad) {
		t.Errorf("errors.Is of %v asks for the wrong kind", err)
	}
	var told *Told
	if !errors.As(err, &told) || told.Kind != Images || !errors.Is(told.Err, Plan) {
		t.Errorf("errors.As of %v finds %v", err, told)
	}
	if got, want := err.Error(), "there: not what lies at stores: here: no plan for so many stores"; got != want {
		t.Errorf("the text is %q, want %q", got, want)
	}
	if As(Images, nil) != nil {
		t.Error("no error, told as one of a kind, is one")
	}
}

func TestTexts(t *testing.T) {
	seen := map[string]Kind{}
	for _, k := range []Kind{Crash, Images, Name, Plan, Big, Twice, Full, Tape, Down, None, Few, Mode, Bad, Store, Place, Kind(99)} {
		text := k.Error()
		if other, ok := seen[text]; ok || text == "" {
			t.Errorf("the kinds %d and %d have one text, %q", other, k, text)
		}
		seen[text] = k
	}
}
