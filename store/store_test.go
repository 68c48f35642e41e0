package store

import (
	"errors"
	"strconv"
	"strings"
	"testing"

	"coffer/api"
	"coffer/fault"
)

func record(name, shard string) Record {
	return Record{Object: api.Object{Name: name}, Shard: []byte(shard)}
}

// lies is what lies at a store, in its order.
func lies(s *Store) string {
	var all []string
	for _, r := range s.Records() {
		text := r.Object.Name + strconv.Itoa(r.Object.Epoch) + "=" + string(r.Shard)
		if r.Next != nil {
			text += "/" + string(r.Next)
		}
		all = append(all, text)
	}
	return strings.Join(all, " ")
}

func TestRecords(t *testing.T) {
	s := new(Store)
	for _, c := range []struct {
		what string
		do   func(*Store, Record)
		r    Record
		want string
	}{
		{"Add", (*Store).Add, record("b", "1"), "b0=1"},
		{"Add", (*Store).Add, record("c", "2"), "b0=1 c0=2"},
		{"Add", (*Store).Add, record("a", "3"), "a0=3 b0=1 c0=2"},
		{"Add", (*Store).Add, record("ba", "4"), "a0=3 b0=1 ba0=4 c0=2"},
		{"Lay", (*Store).Lay, record("b", "5"), "a0=3 b0=1/5 ba0=4 c0=2"},
		{"Drop", (*Store).Drop, record("b", "5"), "a0=3 b0=1 ba0=4 c0=2"},
		{"Drop", (*Store).Drop, record("b", "5"), "a0=3 b0=1 ba0=4 c0=2"},
		{"Turn", (*Store).Turn, record("b", "5"), "a0=3 b0=1 ba0=4 c0=2"},
		{"Lay", (*Store).Lay, record("b", "6"), "a0=3 b0=1/6 ba0=4 c0=2"},
		{"Turn", (*Store).Turn, record("b", ""), "a0=3 b1=6 ba0=4 c0=2"},
		{"Turn", (*Store).Turn, record("b", ""), "a0=3 b1=6 ba0=4 c0=2"},
		{"Lay", (*Store).Lay, record("d", "7"), "a0=3 b1=6 ba0=4 c0=2"},
		{"Turn", (*Store).Turn, record("d", "7"), "a0=3 b1=6 ba0=4 c0=2"},
		{"Drop", (*Store).Drop, record("d", "7"), "a0=3 b1=6 ba0=4 c0=2"},
		{"Remove", (*Store).Remove, record("b", ""), "a0=3 ba0=4 c0=2"},
		{"Remove", (*Store).Remove, record("b", ""), "a0=3 ba0=4 c0=2"},
		{"Remove", (*Store).Remove, record("c", "2"), "a0=3 ba0=4"},
	} {
		c.do(s, c.r)
		if got := lies(s); got != c.want {
			t.Fatalf("%s of %v: there lies %q, want %q", c.what, c.r, got, c.want)
		}
	}
	if r, err := s.Record("ba"); string(r.Shard) != "4" || err != nil {
		t.Errorf("Record = %v, %v", r, err)
	}
	if r, err := s.Record("b"); r.Shard != nil || !errors.Is(err, fault.None) || !strings.HasPrefix(err.Error(), "b: ") {
		t.Errorf("Record of nothing = %v, %v", r, err)
	}
}

func TestLatest(t *testing.T) {
	r := record("a", "1")
	if got := r.Latest(); got != (api.Object{Name: "a"}) {
		t.Errorf("Latest of what has no next shard = %v", got)
	}
	r.Next = []byte("2")
	if got := r.Latest(); got != (api.Object{Name: "a", Epoch: 1}) || r.Object.Epoch != 0 {
		t.Errorf("Latest = %v, of %v", got, r.Object)
	}
}

func TestUp(t *testing.T) {
	s := new(Store)
	for _, up := range []bool{true, false, false, true} {
		s.SetUp(up)
		if err := s.CheckUp(); errors.Is(err, fault.Down) == up {
			t.Errorf("CheckUp = %v, up being %v", err, up)
		}
	}
	if err := new(Store).CheckUp(); err != nil {
		t.Errorf("CheckUp of a new store = %v", err)
	}
}

func TestSpoil(t *testing.T) {
	s := new(Store)
	s.Add(record("a", "abc"))
	for at, want := range map[int]error{-1: fault.Place, 0: nil, 2: nil, 3: fault.Place} {
		if err := s.Spoil("a", at, 32); !errors.Is(err, want) {
			t.Errorf("Spoil at %d = %v, want %v", at, err, want)
		}
	}
	if err := s.Spoil("b", 0, 1); !errors.Is(err, fault.None) {
		t.Errorf("Spoil of nothing = %v", err)
	}
	if got := lies(s); got != "a0=AbC" {
		t.Errorf("there lies %q", got)
	}
}
