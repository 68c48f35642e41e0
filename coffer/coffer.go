// Package coffer: values kept in shares, at stores that may be down, spoilt, or cut off in the middle: see DOC.md.
package coffer

import (
	"strings"

	"coffer/api"
	"coffer/cutting"
	"coffer/fault"
	"coffer/vault"
)

// Coffer keeps values.
type Coffer struct {
	vault *vault.Vault
}

// Split cuts a value into pieces (P3).
func Split(value string, p api.Plan, n int, tape string) ([]string, api.Errno) {
	made, err := cutting.Split(value, p, n, tape)
	if err != nil {
		return nil, fault.Number(err)
	}
	return texts(made), api.OK
}

// Join puts a value together (P3).
func Join(pieces []api.Piece, p api.Plan, n int, size int) (string, api.Errno) {
	return told(cutting.Join(pieces, p, n, size))
}

// Open makes a coffer (P4).
func Open(n int, key uint64) *Coffer {
	return &Coffer{vault: vault.Open(n, key)}
}

// Put keeps a value (P4).
func (c *Coffer) Put(name string, value string, p api.Plan, tape string) api.Errno {
	return fault.Number(c.vault.Put(name, value, p, tape))
}

// Get tells a value (P5).
func (c *Coffer) Get(name string) (string, api.Errno) {
	return told(c.vault.Get(name))
}

// Delete takes a value away (P6).
func (c *Coffer) Delete(name string) api.Errno {
	return fault.Number(c.vault.Delete(name))
}

// Refresh makes the shares of a value new (P6).
func (c *Coffer) Refresh(name string, tape string) api.Errno {
	return fault.Number(c.vault.Refresh(name, tape))
}

// Up lets a store be up or down (P7).
func (c *Coffer) Up(store int, up bool) api.Errno {
	return fault.Number(c.vault.Up(store, up))
}

// Spoil changes a byte of a shard (P7).
func (c *Coffer) Spoil(store int, name string, at int, with byte) api.Errno {
	return fault.Number(c.vault.Spoil(store, name, at, with))
}

// Shard tells a store's shard (P7).
func (c *Coffer) Shard(store int, name string) (string, api.Errno) {
	return told(c.vault.Shard(store, name))
}

// Objects lists the objects (P7).
func (c *Coffer) Objects() []api.Object {
	objects := c.vault.Objects()
	for i := range objects {
		// The name is the vault's own memory.
		objects[i].Name = strings.Clone(objects[i].Name)
	}
	return objects
}

// Writes tells how many writes were done (P8).
func (c *Coffer) Writes() int { return c.vault.Writes() }

// CrashAt lets a write crash (P8).
func (c *Coffer) CrashAt(n int) { c.vault.CrashAt(n) }

// Recover puts a coffer that has crashed right (P8).
func (c *Coffer) Recover() api.Errno { return fault.Number(c.vault.Recover()) }

// Images tells what lies at the stores (P9).
func (c *Coffer) Images() []string { return texts(c.vault.Images()) }

// Reopen makes a coffer out of what lies at the stores (P9).
func Reopen(images []string, key uint64) (*Coffer, api.Errno) {
	v, err := vault.Reopen(images, key)
	if err != nil {
		return nil, fault.Number(err)
	}
	return &Coffer{vault: v}, api.OK
}

// told is bytes as the caller is told them: as a copy, and none with an error.
func told(bytes []byte, err error) (string, api.Errno) {
	if err != nil {
		return "", fault.Number(err)
	}
	return string(bytes), api.OK
}

// texts is lists of bytes as the caller is told them.
func texts(lists [][]byte) []string {
	copies := make([]string, len(lists))
	for i, list := range lists {
		copies[i] = string(list)
	}
	return copies
}
