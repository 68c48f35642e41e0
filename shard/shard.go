// Package shard has the bytes that a store keeps of an object: a head that
// tells what they are of, a piece, and a tag that tells whether they are as
// they were made.
package shard

import (
	"bytes"
	"slices"

	"coffer/api"
	"coffer/fault"
)

const (
	tagStart  = 14695981039346656037
	tagFactor = 1099511628211
	tagLength = 8
)

// Label is what a shard is of: an object, kept at so many stores, and one of
// these.
type Label struct {
	Object api.Object
	Stores int
	Store  int
}

// Made is the shard that has piece in it.
func (l Label) Made(piece []byte, key uint64) []byte {
	ahead := append(l.head(), piece...)
	return append(ahead, tagOf(ahead, key)...)
}

// Piece takes out of a good shard its piece, of length bytes; a shard that is
// not good is told as fault.Bad.
func (l Label) Piece(made []byte, length int, key uint64) ([]byte, error) {
	head := l.head()
	if len(made) != len(head)+length+tagLength {
		return nil, fault.AtCount(len(made), "bytes", fault.Bad)
	}
	ahead, tag := made[:len(head)+length], made[len(head)+length:]
	if !bytes.HasPrefix(ahead, head) {
		return nil, fault.At("head", fault.Bad)
	}
	if !bytes.Equal(tag, tagOf(ahead, key)) {
		return nil, fault.At("tag", fault.Bad)
	}
	return slices.Clone(ahead[len(head):]), nil
}

// head is what stands ahead of the piece.
func (l Label) head() []byte {
	name, plan := l.Object.Name, l.Object.Plan
	return slices.Concat(
		[]byte{byte(plan.Mode), byte(plan.T), byte(plan.L), byte(l.Stores), byte(l.Store)},
		highFirst(uint64(l.Object.Epoch), 2),
		highFirst(uint64(l.Object.Size), 2),
		[]byte{byte(len(name))},
		[]byte(name),
	)
}

func tagOf(ahead []byte, key uint64) []byte {
	tag := tagStart ^ key
	for _, b := range ahead {
		tag = (tag ^ uint64(b)) * tagFactor
	}
	return highFirst(tag, tagLength)
}

// highFirst is a number in so many bytes, the highest first.
func highFirst(number uint64, length int) []byte {
	digits := make([]byte, length)
	for i := range digits {
		digits[length-1-i] = byte(number >> (8 * i))
	}
	return digits
}
