// Package vault keeps objects at several stores.
package vault

import (
	"coffer/api"
	"coffer/cutting"
	"coffer/fault"
	"coffer/shard"
	"coffer/store"
)

// Vault is the stores, the key of the tags, and the pen that writes. While it
// is not crashed every store has a record of every object.
type Vault struct {
	key    uint64
	stores []*store.Store
	pen    pen
}

// Open makes a vault with n stores, or as near to n as there may be.
func Open(n int, key uint64) *Vault {
	v := &Vault{key: key}
	for range min(max(n, 1), api.MaxStores) {
		v.stores = append(v.stores, new(store.Store))
	}
	return v
}

// Get puts a value together from the stores that are up.
func (v *Vault) Get(name string) ([]byte, error) {
	object, err := v.object(name)
	if err != nil {
		return nil, fault.At("get", err)
	}
	value, err := cutting.Join(v.reached(object), object.Plan, len(v.stores), object.Size)
	return value, fault.At("get", err)
}

// Up lets a store be up or down.
func (v *Vault) Up(number int, up bool) error {
	s, err := v.store(number)
	if err != nil {
		return fault.At("up", err)
	}
	s.SetUp(up)
	return nil
}

// Spoil changes one byte of a store's shard.
func (v *Vault) Spoil(number int, name string, at int, with byte) error {
	s, err := v.openStore(number)
	if err != nil {
		return fault.At("spoil", err)
	}
	return fault.At("spoil", s.Spoil(name, at, with))
}

// Shard tells a store's shard. Its bytes are the store's own.
func (v *Vault) Shard(number int, name string) ([]byte, error) {
	s, err := v.openStore(number)
	if err != nil {
		return nil, fault.At("shard", err)
	}
	r, err := s.Record(name)
	return r.Shard, fault.At("shard", err)
}

// Objects lists the objects, in the order of their names; none while the vault
// is crashed, as it is open what there will be.
func (v *Vault) Objects() []api.Object {
	if v.pen.check() != nil {
		return nil
	}
	var objects []api.Object
	for _, r := range v.stores[0].Records() {
		objects = append(objects, r.Object)
	}
	return objects
}

// object tells what is known of an object, or answers fault.Crash or
// fault.None.
func (v *Vault) object(name string) (api.Object, error) {
	if err := v.pen.check(); err != nil {
		return api.Object{}, err
	}
	r, err := v.stores[0].Record(name)
	return r.Object, err
}

// store is the store of that number; if there is none, fault.Store.
func (v *Vault) store(number int) (*store.Store, error) {
	if number < 0 || number >= len(v.stores) {
		return nil, fault.AtStore(number, fault.Store)
	}
	return v.stores[number], nil
}

// openStore is the store of that number, while the vault is not crashed.
func (v *Vault) openStore(number int) (*store.Store, error) {
	if err := v.pen.check(); err != nil {
		return nil, err
	}
	return v.store(number)
}

// allUp answers fault.Down, if a store is down.
func (v *Vault) allUp() error {
	for i, s := range v.stores {
		if err := s.CheckUp(); err != nil {
			return fault.AtStore(i, err)
		}
	}
	return nil
}

// reached is the pieces in the good shards at the stores that are up: what is
// down or not good is as if it were not there.
func (v *Vault) reached(object api.Object) []api.Piece {
	var pieces []api.Piece
	for i, s := range v.stores {
		if s.CheckUp() != nil {
			continue
		}
		if bytes, err := v.piece(i, object); err == nil {
			pieces = append(pieces, api.Piece{Store: i, Bytes: string(bytes)})
		}
	}
	return pieces
}

// piece takes the piece out of a store's shard, if that is good.
func (v *Vault) piece(number int, object api.Object) ([]byte, error) {
	r, err := v.stores[number].Record(object.Name)
	if err != nil {
		return nil, fault.AtStore(number, err)
	}
	piece, err := v.label(number, object).Piece(r.Shard, v.key)
	return piece, fault.AtStore(number, err)
}

func (v *Vault) label(number int, object api.Object) shard.Label {
	return shard.Label{Object: object, Stores: len(v.stores), Store: number}
}
