package vault

import (
	"errors"
	"slices"
	"strings"
	"testing"
	"unsafe"

	"coffer/api"
	"coffer/fault"
)

func share(t, l int) api.Plan { return api.Plan{Mode: api.Share, T: t, L: l} }

func disperse(t int) api.Plan { return api.Plan{Mode: api.Disperse, T: t, L: 1} }

func opened(t *testing.T) *Vault {
	t.Helper()
	v := Open(3, 5)
	for name, plan := range map[string]api.Plan{"shared": share(2, 1), "dispersed": disperse(2)} {
		if err := v.Put(name, "value", plan, "tapes"); err != nil {
			t.Fatal(err)
		}
	}
	return v
}

// What the errors say is asked here; which of them comes first is asked of the
// calls themselves, in package coffer.
func TestErrorsSayWhatAndWhere(t *testing.T) {
	v, down, spoilt := opened(t), opened(t), opened(t)
	down.Up(2, false)
	spoilt.Spoil(1, "shared", 0, 1)
	second := func(_ []byte, err error) error { return err }
	few := opened(t)
	few.Up(0, false)
	few.Up(1, false)
	crashed := opened(t)
	crashed.CrashAt(4)
	crash := crashed.Refresh("shared", "tapes")
	reopened := func(images ...string) error {
		_, err := Reopen(images, 5)
		return err
	}
	image := func(i int) string { return string(v.Images()[i]) }
	for _, c := range []struct {
		err   error
		kind  fault.Kind
		outer string
		tells string
	}{
		{v.Put("", "", share(1, 1), ""), fault.Name, "put", "0 bytes"},
		{v.Put("new", "", share(9, 1), ""), fault.Plan, "put", "T 9"},
		{v.Put("new", strings.Repeat("v", 61), share(1, 1), ""), fault.Big, "put", "61 bytes"},
		{v.Put("shared", "", share(1, 1), ""), fault.Twice, "put", "shared"},
		{v.Put("new", "value", share(2, 1), ""), fault.Tape, "put", "split"},
		{down.Put("new", "", share(1, 1), ""), fault.Down, "put", "store 2"},
		{second(v.Get("new")), fault.None, "get", "new"},
		{second(few.Get("shared")), fault.Few, "get", "join: 1 pieces"},
		{v.Delete("new"), fault.None, "delete", "new"},
		{down.Delete("shared"), fault.Down, "delete", "store 2"},
		{v.Refresh("new", ""), fault.None, "refresh", "new"},
		{v.Refresh("dispersed", ""), fault.Mode, "refresh", "disperse"},
		{v.Refresh("shared", ""), fault.Tape, "refresh", "split"},
		{down.Refresh("shared", "tapes"), fault.Down, "refresh", "store 2"},
		{spoilt.Refresh("shared", "tapes"), fault.Bad, "refresh", "store 1: head"},
		{v.Up(3, true), fault.Store, "up", "store 3"},
		{v.Spoil(-1, "shared", 0, 1), fault.Store, "spoil", "store -1"},
		{v.Spoil(0, "new", 0, 1), fault.None, "spoil", "new"},
		{v.Spoil(0, "shared", 99, 1), fault.Place, "spoil", "99"},
		{second(v.Shard(8, "shared")), fault.Store, "shard", "store 8"},
		{second(v.Shard(0, "new")), fault.None, "shard", "new"},
		{crash, fault.Crash, "refresh", "store 1"},
		{crashed.Put("new", "", share(1, 1), ""), fault.Crash, "put", "crashed"},
		{second(crashed.Get("shared")), fault.Crash, "get", "crashed"},
		{crashed.Delete("shared"), fault.Crash, "delete", "crashed"},
		{crashed.Refresh("shared", "tapes"), fault.Crash, "refresh", "crashed"},
		{crashed.Spoil(0, "shared", 0, 1), fault.Crash, "spoil", "crashed"},
		{second(crashed.Shard(0, "shared")), fault.Crash, "shard", "crashed"},
		{down.Recover(), fault.Down, "recover", "store 2"},
		{reopened(), fault.Images, "reopen", "0 images"},
		{reopened(make([]string, 9)...), fault.Images, "reopen", "9 images"},
		{reopened(image(0), image(1), image(2)[1:]), fault.Images, "reopen", "store 2: 0 records ahead"},
		{reopened(image(0), image(2), image(1)), fault.Images, "reopen", "store 1: 0 records ahead: store 2"},
		{reopened(image(0), image(1), ""), fault.Images, "reopen", "dispersed and shared"},
	} {
		var kind fault.Kind
		var outer *fault.Located
		if !errors.Is(c.err, c.kind) || !errors.As(c.err, &kind) || kind != c.kind {
			t.Errorf("%v is not of the kind %v", c.err, c.kind)
			continue
		}
		if !errors.As(c.err, &outer) || outer.Where != c.outer || !strings.Contains(c.err.Error(), c.tells) {
			t.Errorf("%v does not tell of %q in %q", c.err, c.tells, c.outer)
		}
	}
}

// lent is a text in room that is written into once the call has answered: what
// has kept the text itself, and no copy, is changed by it.
type lent [][]byte

func (l *lent) text(s string) string {
	room := []byte(s)
	*l = append(*l, room)
	return unsafe.String(&room[0], len(s))
}

func (l *lent) takeBack() {
	for _, room := range *l {
		for i := range room {
			room[i] = '#'
		}
	}
}

func TestNothingHandedInIsKept(t *testing.T) {
	v := Open(3, 5)
	var l lent
	if err := v.Put(l.text("name"), l.text("value"), share(2, 1), l.text("tapes")); err != nil {
		t.Fatal(err)
	}
	l.takeBack()
	if err := v.Refresh(l.text("name"), l.text("tapes")); err != nil {
		t.Fatal(err)
	}
	l.takeBack()
	if value, err := v.Get("name"); string(value) != "value" || err != nil {
		t.Errorf("Get = %q, %v", value, err)
	}
	if objects := v.Objects(); len(objects) != 1 || objects[0].Name != "name" {
		t.Errorf("Objects = %v", objects)
	}
}

func TestReopenKeepsNothingHandedIn(t *testing.T) {
	v := opened(t)
	var l lent
	var images []string
	for _, image := range v.Images() {
		images = append(images, l.text(string(image)))
	}
	again, err := Reopen(images, 5)
	if err != nil {
		t.Fatal(err)
	}
	l.takeBack()
	for _, name := range []string{"shared", "dispersed"} {
		if value, err := again.Get(name); string(value) != "value" || err != nil {
			t.Errorf("Get(%q) = %q, %v", name, value, err)
		}
	}
	if got, want := again.Objects(), v.Objects(); !slices.Equal(got, want) {
		t.Errorf("Objects = %v, want %v", got, want)
	}
}

// Errors that come only when a store has lost a record, which no call does.
func TestLostRecord(t *testing.T) {
	v := opened(t)
	r, _ := v.stores[1].Record("shared")
	v.stores[1].Remove(r)
	if _, err := v.piece(1, r.Object); !errors.Is(err, fault.None) {
		t.Errorf("piece = %v, want fault.None", err)
	}
	if value, err := v.Get("shared"); string(value) != "value" || err != nil {
		t.Errorf("Get = %q, %v", value, err)
	}
}
