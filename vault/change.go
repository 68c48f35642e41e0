package vault

import (
	"errors"
	"slices"
	"strings"

	"coffer/api"
	"coffer/cutting"
	"coffer/fault"
	"coffer/row"
	"coffer/store"
)

// call is a call that changes what lies at the stores.
type call int

const (
	put call = iota
	remove
	refresh
)

// change is what a call does to each store.
func (c call) change() func(*store.Store, store.Record) {
	table := [...]func(*store.Store, store.Record){
		put:     (*store.Store).Add,
		remove:  (*store.Store).Remove,
		refresh: (*store.Store).Replace,
	}
	return table[c]
}

// write does what a call does to each store, with the record that is for it.
func (v *Vault) write(c call, records []store.Record) {
	change := c.change()
	for i, s := range v.stores {
		change(s, records[i])
	}
}

// Put keeps a value at all stores.
func (v *Vault) Put(name, value string, p api.Plan, tape string) error {
	pieces, err := v.cut(name, value, p, tape)
	if err != nil {
		return fault.At("put", err)
	}
	object := api.Object{Name: strings.Clone(name), Plan: p, Size: len(value)}
	v.write(put, v.records(object, pieces))
	return nil
}

// cut is the pieces of a value that can be put.
func (v *Vault) cut(name, value string, p api.Plan, tape string) ([][]byte, error) {
	if err := v.checkNew(name, p, len(value)); err != nil {
		return nil, err
	}
	pieces, err := cutting.Split(value, p, len(v.stores), tape)
	if err != nil {
		return nil, err
	}
	return pieces, v.allUp()
}

// checkNew answers the errors of a new object that come ahead of the tape's.
func (v *Vault) checkNew(name string, p api.Plan, size int) error {
	if len(name) < 1 || len(name) > api.MaxName {
		return fault.AtCount(len(name), "bytes", fault.Name)
	}
	if _, err := cutting.PieceLength(p, len(v.stores), size); err != nil {
		return err
	}
	if _, err := v.object(name); !errors.Is(err, fault.None) {
		return fault.At(name, fault.Twice)
	}
	if count := len(v.Objects()); count >= api.MaxObjects {
		return fault.AtCount(count, "objects", fault.Full)
	}
	return nil
}

// Delete takes an object away from all stores.
func (v *Vault) Delete(name string) error {
	object, err := v.object(name)
	if err != nil {
		return fault.At("delete", err)
	}
	if err := v.allUp(); err != nil {
		return fault.At("delete", err)
	}
	v.write(remove, slices.Repeat([]store.Record{{Object: object}}, len(v.stores)))
	return nil
}

// Refresh makes the pieces of an object new, without its value being put
// together.
func (v *Vault) Refresh(name, tape string) error {
	object, err := v.object(name)
	if err != nil {
		return fault.At("refresh", err)
	}
	pieces, err := v.refreshed(object, tape)
	if err != nil {
		return fault.At("refresh", err)
	}
	object.Epoch++
	v.write(refresh, v.records(object, pieces))
	return nil
}

// refreshed is the pieces of an object, to each of which that of a value of
// noughts is added.
func (v *Vault) refreshed(object api.Object, tape string) ([][]byte, error) {
	if object.Plan.Mode == api.Disperse {
		return nil, fault.At("disperse", fault.Mode)
	}
	if object.Epoch >= api.MaxEpoch {
		return nil, fault.AtCount(object.Epoch, "epochs", fault.Full)
	}
	noughts := strings.Repeat("\x00", object.Size)
	pieces, err := cutting.Split(noughts, object.Plan, len(v.stores), tape)
	if err != nil {
		return nil, err
	}
	if err := v.allUp(); err != nil {
		return nil, err
	}
	for i := range pieces {
		old, err := v.piece(i, object)
		if err != nil {
			return nil, err
		}
		pieces[i] = row.Sum(old, pieces[i])
	}
	return pieces, nil
}

// records is, for each store, its record of an object with these pieces.
func (v *Vault) records(object api.Object, pieces [][]byte) []store.Record {
	records := make([]store.Record, len(pieces))
	for i, piece := range pieces {
		records[i] = store.Record{Object: object, Shard: v.label(i, object).Made(piece, v.key)}
	}
	return records
}
