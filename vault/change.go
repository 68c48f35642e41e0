package vault

import (
	"errors"
	"strings"

	"coffer/api"
	"coffer/cutting"
	"coffer/fault"
	"coffer/row"
	"coffer/store"
)

// call is a call that changes what lies at the stores. Recover removes,
// finishes, takes back or leaves: which, hangs on what was cut off.
type call int

const (
	put call = iota
	remove
	refresh
	finish
	takeBack
	leave
)

// step is what a write does to a store.
type step func(*store.Store, store.Record)

// steps is what a call does to each store; each step is done to all stores
// ahead of the next. So a call that is cut off leaves enough to finish it or
// to take it back.
func (c call) steps() []step {
	table := [...][]step{
		put:      {(*store.Store).Add},
		remove:   {(*store.Store).Remove},
		refresh:  {(*store.Store).Lay, (*store.Store).Turn},
		finish:   {(*store.Store).Turn},
		takeBack: {(*store.Store).Drop},
		leave:    {},
	}
	return table[c]
}

// write does what a call does to each store, with the record that is for it,
// until a write crashes.
func (v *Vault) write(c call, records []store.Record) error {
	for _, do := range c.steps() {
		for i, s := range v.stores {
			if err := v.pen.next(); err != nil {
				return fault.AtStore(i, err)
			}
			do(s, records[i])
		}
	}
	return nil
}

// Put keeps a value at all stores.
func (v *Vault) Put(name, value string, p api.Plan, tape string) error {
	object := api.Object{Name: name, Plan: p, Size: len(value)}
	pieces, err := v.cut(object, value, tape)
	if err != nil {
		return fault.At("put", err)
	}
	object.Name = strings.Clone(name)
	return fault.At("put", v.write(put, v.records(object, pieces)))
}

// cut is the pieces of a value that can be put.
func (v *Vault) cut(object api.Object, value, tape string) ([][]byte, error) {
	if err := v.checkNew(object); err != nil {
		return nil, err
	}
	pieces, err := cutting.Split(value, object.Plan, len(v.stores), tape)
	if err != nil {
		return nil, err
	}
	return pieces, v.allUp()
}

// checkNew answers the errors of a new object that come ahead of the tape's.
func (v *Vault) checkNew(object api.Object) error {
	if err := v.pen.check(); err != nil {
		return err
	}
	if _, err := v.label(0, object).Length(); err != nil {
		return err
	}
	if _, err := v.object(object.Name); !errors.Is(err, fault.None) {
		return fault.At(object.Name, fault.Twice)
	}
	if count := len(v.Objects()); count >= api.MaxObjects {
		return fault.AtCount(count, "objects", fault.Full)
	}
	return nil
}

// Delete takes an object away from all stores.
func (v *Vault) Delete(name string) error {
	object, err := v.object(name)
	if err != nil {
		return fault.At("delete", err)
	}
	if err := v.allUp(); err != nil {
		return fault.At("delete", err)
	}
	return fault.At("delete", v.write(remove, v.everywhere(object)))
}

// Refresh makes the pieces of an object new, without its value being put
// together.
func (v *Vault) Refresh(name, tape string) error {
	object, err := v.object(name)
	if err != nil {
		return fault.At("refresh", err)
	}
	pieces, err := v.refreshed(object, tape)
	if err != nil {
		return fault.At("refresh", err)
	}
	object.Epoch++
	return fault.At("refresh", v.write(refresh, v.records(object, pieces)))
}

// refreshed is the pieces of an object, to each of which that of a value of
// noughts is added.
func (v *Vault) refreshed(object api.Object, tape string) ([][]byte, error) {
	if object.Plan.Mode == api.Disperse {
		return nil, fault.At("disperse", fault.Mode)
	}
	if object.Epoch >= api.MaxEpoch {
		return nil, fault.AtCount(object.Epoch, "epochs", fault.Full)
	}
	noughts := strings.Repeat("\x00", object.Size)
	pieces, err := cutting.Split(noughts, object.Plan, len(v.stores), tape)
	if err != nil {
		return nil, err
	}
	if err := v.allUp(); err != nil {
		return nil, err
	}
	for i := range pieces {
		old, err := v.piece(i, object)
		if err != nil {
			return nil, err
		}
		pieces[i] = row.Sum(old, pieces[i])
	}
	return pieces, nil
}

// records is, for each store, its record of an object with these pieces.
func (v *Vault) records(object api.Object, pieces [][]byte) []store.Record {
	records := make([]store.Record, len(pieces))
	for i, piece := range pieces {
		records[i] = store.Record{Object: object, Shard: v.label(i, object).Made(piece, v.key)}
	}
	return records
}
