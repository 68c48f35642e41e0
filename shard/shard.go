// Package shard has the bytes that a store keeps of an object: a head that
// tells what they are of, a piece, and a tag that tells whether they are as
// they were made.
package shard

import (
	"bytes"
	"slices"
	"strings"

	"coffer/api"
	"coffer/cutting"
	"coffer/fault"
)

const (
	tagStart  = 14695981039346656037
	tagFactor = 1099511628211
	tagLength = 8
	// nameStart is where a head has the name; the byte ahead of it has its
	// length.
	nameStart = 10
)

// Label is what a shard is of: an object, kept at so many stores, and one of
// these.
type Label struct {
	Object api.Object
	Stores int
	Store  int
}

// Length is how many bytes the shard has. Its errors are those of an object
// that cannot be kept at so many stores.
func (l Label) Length() (int, error) {
	name := len(l.Object.Name)
	if name < 1 || name > api.MaxName {
		return 0, fault.AtCount(name, "bytes", fault.Name)
	}
	piece, err := cutting.PieceLength(l.Object.Plan, l.Stores, l.Object.Size)
	return nameStart + name + piece + tagLength, err
}

// Made is the shard that has piece in it.
func (l Label) Made(piece []byte, key uint64) []byte {
	ahead := append(l.Head(), piece...)
	return append(ahead, tagOf(ahead, key)...)
}

// Piece takes the piece out of a good shard; one that is not good is told as
// fault.Bad.
func (l Label) Piece(made []byte, key uint64) ([]byte, error) {
	length, err := l.Length()
	if err != nil {
		return nil, err
	}
	if len(made) != length {
		return nil, fault.AtCount(len(made), "bytes", fault.Bad)
	}
	head, ahead, tag := l.Head(), made[:length-tagLength], made[length-tagLength:]
	if !bytes.HasPrefix(ahead, head) {
		return nil, fault.At("head", fault.Bad)
	}
	if !bytes.Equal(tag, tagOf(ahead, key)) {
		return nil, fault.At("tag", fault.Bad)
	}
	return slices.Clone(ahead[len(head):]), nil
}

// Head is what stands ahead of the piece.
func (l Label) Head() []byte {
	name, plan := l.Object.Name, l.Object.Plan
	return slices.Concat(
		[]byte{byte(plan.Mode), byte(plan.T), byte(plan.L), byte(l.Stores), byte(l.Store)},
		highFirst(uint64(l.Object.Epoch), 2),
		highFirst(uint64(l.Object.Size), 2),
		[]byte{byte(len(name))},
		[]byte(name),
	)
}

// Read takes apart the head that a text begins with, and tells what is behind
// it. The numbers are as they stand there, whatever they are.
func Read(text string) (Label, string, error) {
	if len(text) < nameStart || len(text)-nameStart < int(text[nameStart-1]) {
		return Label{}, "", fault.At("head", fault.AtCount(len(text), "bytes", fault.Bad))
	}
	behind := nameStart + int(text[nameStart-1])
	object := api.Object{
		Name:  strings.Clone(text[nameStart:behind]),
		Plan:  api.Plan{Mode: int(text[0]), T: int(text[1]), L: int(text[2])},
		Epoch: number(text[5:7]),
		Size:  number(text[7:9]),
	}
	return Label{Object: object, Stores: int(text[3]), Store: int(text[4])}, text[behind:], nil
}

func tagOf(ahead []byte, key uint64) []byte {
	tag := tagStart ^ key
	for _, b := range ahead {
		tag = (tag ^ uint64(b)) * tagFactor
	}
	return highFirst(tag, tagLength)
}

// highFirst is a number in so many bytes, the highest first.
func highFirst(number uint64, length int) []byte {
	digits := make([]byte, length)
	for i := range digits {
		digits[length-1-i] = byte(number >> (8 * i))
	}
	return digits
}

// number undoes highFirst, of two bytes.
func number(digits string) int { return int(digits[0])<<8 | int(digits[1]) }
