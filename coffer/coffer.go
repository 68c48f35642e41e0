// Package coffer: values kept in shares, at stores that may be down, spoilt, or cut off in the middle: see DOC.md.
package coffer

import (
	"coffer/api"
	"coffer/cutting"
	"coffer/fault"
)

// Coffer keeps values.
type Coffer struct{}

// Split cuts a value into pieces (P3).
func Split(value string, p api.Plan, n int, tape string) ([]string, api.Errno) {
	made, err := cutting.Split(value, p, n, tape)
	if err != nil {
		return nil, fault.Number(err)
	}
	texts := make([]string, len(made))
	for i, piece := range made {
		texts[i] = string(piece)
	}
	return texts, api.OK
}

// Join puts a value together (P3).
func Join(pieces []api.Piece, p api.Plan, n int, size int) (string, api.Errno) {
	value, err := cutting.Join(pieces, p, n, size)
	if err != nil {
		return "", fault.Number(err)
	}
	return string(value), api.OK
}

// Open makes a coffer (P4).
func Open(n int, key uint64) *Coffer { return nil }

// Put keeps a value (P4).
func (c *Coffer) Put(name string, value string, p api.Plan, tape string) api.Errno { return api.OK }

// Get tells a value (P5).
func (c *Coffer) Get(name string) (string, api.Errno) { return "", api.OK }

// Delete takes a value away (P6).
func (c *Coffer) Delete(name string) api.Errno { return api.OK }

// Refresh makes the shares of a value new (P6).
func (c *Coffer) Refresh(name string, tape string) api.Errno { return api.OK }

// Up lets a store be up or down (P7).
func (c *Coffer) Up(store int, up bool) api.Errno { return api.OK }

// Spoil changes a byte of a shard (P7).
func (c *Coffer) Spoil(store int, name string, at int, with byte) api.Errno { return api.OK }

// Shard tells a store's shard (P7).
func (c *Coffer) Shard(store int, name string) (string, api.Errno) { return "", api.OK }

// Objects lists the objects (P7).
func (c *Coffer) Objects() []api.Object { return nil }

// Writes tells how many writes were done (P8).
func (c *Coffer) Writes() int { return 0 }

// CrashAt lets a write crash (P8).
func (c *Coffer) CrashAt(n int) {}

// Recover puts a coffer that has crashed right (P8).
func (c *Coffer) Recover() api.Errno { return api.OK }

// Images tells what lies at the stores (P9).
func (c *Coffer) Images() []string { return nil }

// Reopen makes a coffer out of what lies at the stores (P9).
func Reopen(images []string, key uint64) (*Coffer, api.Errno) { return nil, api.OK }
