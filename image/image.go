// Package image has what lies at a store as bytes: record behind record, each
// of them how many shards there are, the head of the first, and the shards.
package image

import (
	"slices"

	"coffer/api"
	"coffer/fault"
	"coffer/shard"
	"coffer/store"
)

// Made is the records at one of so many stores, as bytes.
func Made(records []store.Record, stores, number int) []byte {
	var image []byte
	for _, r := range records {
		head := shard.Label{Object: r.Object, Stores: stores, Store: number}.Head()
		image = slices.Concat(image, []byte{shardCount(r)}, head, r.Shard, r.Next)
	}
	return image
}

func shardCount(r store.Record) byte {
	if r.Next == nil {
		return 1
	}
	return 2
}

// Records undoes Made. What cannot lie at that store is told as an error.
func Records(image string, stores, number int) ([]store.Record, error) {
	var records []store.Record
	last := ""
	for rest := image; len(rest) > 0; {
		if len(records) == api.MaxObjects {
			return nil, fault.AtCount(len(rest), "bytes behind the last record", fault.Full)
		}
		r, behind, err := read(rest, stores, number)
		if err != nil {
			return nil, fault.AtCount(len(records), "records ahead", err)
		}
		if r.Object.Name <= last {
			return nil, fault.At(r.Object.Name, fault.Twice)
		}
		records, last, rest = append(records, r), r.Object.Name, behind
	}
	return records, nil
}

// read takes the first record off a text, and tells what is behind it.
func read(text string, stores, number int) (store.Record, string, error) {
	count := int(text[0])
	label, rest, err := shard.Read(text[1:])
	if err != nil {
		return store.Record{}, "", err
	}
	if label.Stores != stores || label.Store != number {
		return store.Record{}, "", fault.AtStore(label.Store, fault.Store)
	}
	if err := checkEpochs(label.Object, count); err != nil {
		return store.Record{}, "", err
	}
	length, err := label.Length()
	if err != nil {
		return store.Record{}, "", err
	}
	if len(rest) < count*length {
		return store.Record{}, "", fault.AtCount(len(rest), "bytes", fault.Bad)
	}
	r := store.Record{Object: label.Object, Shard: []byte(rest[:length])}
	if count == 2 {
		r.Next = []byte(rest[length : 2*length])
	}
	return r, rest[count*length:], nil
}

// checkEpochs checks that an object can have shards of so many epochs, one
// behind the other.
func checkEpochs(object api.Object, count int) error {
	if count != 1 && count != 2 {
		return fault.AtCount(count, "shards", fault.Bad)
	}
	last := object.Epoch + count - 1
	if last > api.MaxEpoch {
		return fault.AtCount(last, "epochs", fault.Full)
	}
	if last > 0 && object.Plan.Mode == api.Disperse {
		return fault.At("disperse", fault.Mode)
	}
	return nil
}
