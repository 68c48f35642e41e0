package vault

import (
	"errors"
	"testing"

	"coffer/api"
	"coffer/fault"
	"coffer/store"
)

// at is a record of an object in that epoch.
func at(epoch int) *store.Record {
	return &store.Record{Object: api.Object{Name: "name", Plan: share(1, 1), Epoch: epoch}, Shard: []byte("now")}
}

// laid is a record of an object in that epoch, with the shard of the next laid
// beside it.
func laid(epoch int) *store.Record {
	r := at(epoch)
	r.Next = []byte("next")
	return r
}

// lying is a vault of stores that have these records, or none.
func lying(records ...*store.Record) *Vault {
	v := Open(len(records), 1)
	for i, r := range records {
		if r != nil {
			v.stores[i].Add(*r)
		}
	}
	return v
}

func TestSettling(t *testing.T) {
	bigger := at(1)
	bigger.Object.Size = 1
	for _, c := range []struct {
		what    string
		records []*store.Record
		want    call
		err     error
	}{
		{"nothing happened", []*store.Record{at(1), at(1), at(1)}, leave, nil},
		{"put at one", []*store.Record{at(0), nil, nil}, remove, nil},
		{"put at two", []*store.Record{at(0), at(0), nil}, remove, nil},
		{"deleted at one", []*store.Record{nil, at(5), at(5)}, remove, nil},
		{"deleted at two", []*store.Record{nil, nil, at(5)}, remove, nil},
		{"laid at one", []*store.Record{laid(1), at(1), at(1)}, takeBack, nil},
		{"laid at two", []*store.Record{laid(1), laid(1), at(1)}, takeBack, nil},
		{"laid at all", []*store.Record{laid(1), laid(1), laid(1)}, finish, nil},
		{"turned at one", []*store.Record{at(2), laid(1), laid(1)}, finish, nil},
		{"turned at two", []*store.Record{at(2), at(2), laid(1)}, finish, nil},
		{"one store, nothing happened", []*store.Record{at(1)}, leave, nil},
		{"one store, laid", []*store.Record{laid(1)}, finish, nil},
		{"two epochs", []*store.Record{at(2), at(1), at(1)}, leave, fault.Bad},
		{"two epochs, laid", []*store.Record{laid(2), laid(1), at(1)}, leave, fault.Bad},
		{"two objects of one name", []*store.Record{at(1), bigger, at(1)}, leave, fault.Bad},
	} {
		if got, err := lying(c.records...).settling("name"); got != c.want || !errors.Is(err, c.err) {
			t.Errorf("%s: settling = %d, %v, want %d, %v", c.what, got, err, c.want, c.err)
		}
	}
}

// settled tells of each store in which epoch its record is and which shard it
// has.
func settled(v *Vault) string {
	text := ""
	for _, s := range v.stores {
		for _, r := range s.Records() {
			text += string(rune('0'+r.Object.Epoch)) + string(r.Shard) + string(r.Next) + " "
		}
	}
	return text
}

func TestSettle(t *testing.T) {
	for _, c := range []struct {
		records []*store.Record
		want    string
	}{
		{[]*store.Record{at(1), at(1)}, "1now 1now "},
		{[]*store.Record{at(0), nil}, ""},
		{[]*store.Record{nil, at(5)}, ""},
		{[]*store.Record{laid(1), at(1)}, "1now 1now "},
		{[]*store.Record{laid(1), laid(1)}, "2next 2next "},
		{[]*store.Record{at(2), laid(1)}, "2now 2next "},
	} {
		v := lying(c.records...)
		if err := v.settle(); err != nil || settled(v) != c.want {
			t.Errorf("settle: %v, and there lies %q, want %q", err, settled(v), c.want)
		}
		if _, settles, err := v.cutOff(); settles != leave || err != nil {
			t.Errorf("what was settled is cut off: %d, %v", settles, err)
		}
	}
}

func TestTwoCutOff(t *testing.T) {
	v := opened(t)
	for _, o := range v.Objects() {
		v.stores[2].Remove(store.Record{Object: o})
	}
	before := settled(v)
	if err := v.settle(); !errors.Is(err, fault.Bad) || settled(v) != before {
		t.Errorf("settle = %v, want fault.Bad, and nothing changed", err)
	}
}

// Reopen is not among the calls that write, so that a vault that was reopened
// has done none, not even where something was to be settled.
func TestReopenDoesNoWrites(t *testing.T) {
	for writes := range 6 {
		v := opened(t)
		v.CrashAt(writes)
		if err := v.Refresh("shared", "tapes"); !errors.Is(err, fault.Crash) {
			t.Fatalf("Refresh = %v", err)
		}
		var images []string
		for _, image := range v.Images() {
			images = append(images, string(image))
		}
		again, err := Reopen(images, 5)
		if err != nil {
			t.Fatal(err)
		}
		if got := again.Writes(); got != 0 {
			t.Errorf("Writes of a vault reopened behind %d writes = %d", writes, got)
		}
		if err := again.Delete("shared"); err != nil || again.Writes() != 3 {
			t.Errorf("Delete: %v, and Writes = %d, want 3", err, again.Writes())
		}
	}
}
