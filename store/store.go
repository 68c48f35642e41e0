// Package store has a store: what lies there, and whether it is up.
package store

import (
	"slices"
	"strings"

	"coffer/api"
	"coffer/fault"
)

// Record is what a store has of an object. What is known of the object lies
// beside its shard, as each byte of the shard may be spoilt.
type Record struct {
	Object api.Object
	Shard  []byte
	// Next is the shard of the next epoch, laid beside the one of this epoch
	// until all stores have it; else nil.
	Next []byte
}

// Latest is what will be known of the object once Next has taken the place of
// Shard.
func (r Record) Latest() api.Object {
	if r.Next != nil {
		r.Object.Epoch++
	}
	return r.Object
}

// Store has its records in the order of their names. One that is new is up,
// and nothing lies there.
type Store struct {
	down    bool
	records []Record
}

// SetUp lets the store be up or down.
func (s *Store) SetUp(up bool) { s.down = !up }

// CheckUp answers fault.Down, if the store is down.
func (s *Store) CheckUp() error {
	if s.down {
		return fault.Down
	}
	return nil
}

// Record tells what the store has of the object of that name, or answers
// fault.None.
func (s *Store) Record(name string) (Record, error) {
	at, found := s.place(name)
	if !found {
		return Record{}, fault.At(name, fault.None)
	}
	return s.records[at], nil
}

// Records tells all that the store has.
func (s *Store) Records() []Record { return slices.Clone(s.records) }

// Add lays a record at the store.
func (s *Store) Add(r Record) {
	at, _ := s.place(r.Object.Name)
	s.records = slices.Insert(s.records, at, r)
}

// Lay lays the shard of r beside that of the record of the same name.
func (s *Store) Lay(r Record) {
	if at, found := s.place(r.Object.Name); found {
		s.records[at].Next = r.Shard
	}
}

// Turn lets the shard that was laid beside another take its place, if there is
// one.
func (s *Store) Turn(r Record) {
	if at, found := s.place(r.Object.Name); found && s.records[at].Next != nil {
		own := s.records[at]
		s.records[at] = Record{Object: own.Latest(), Shard: own.Next}
	}
}

// Drop takes away what was laid beside a shard.
func (s *Store) Drop(r Record) {
	s.Lay(Record{Object: r.Object})
}

// Remove takes away the record of the same name.
func (s *Store) Remove(r Record) {
	s.records = slices.DeleteFunc(s.records, func(other Record) bool {
		return other.Object.Name == r.Object.Name
	})
}

// Spoil changes one byte of the shard of the object of that name.
func (s *Store) Spoil(name string, at int, with byte) error {
	r, err := s.Record(name)
	if err != nil {
		return err
	}
	if at < 0 || at >= len(r.Shard) {
		return fault.AtCount(at, "bytes behind the first", fault.Place)
	}
	r.Shard[at] ^= with
	return nil
}

func (s *Store) place(name string) (int, bool) {
	return slices.BinarySearchFunc(s.records, name, func(r Record, name string) int {
		return strings.Compare(r.Object.Name, name)
	})
}
