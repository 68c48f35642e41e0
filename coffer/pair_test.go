package coffer_test

import (
	"fmt"
	"slices"
	"testing"

	"coffer/api"
	"coffer/coffer"
)

// pair is a coffer and the model that it is held against: what is done is done
// to both, and behind each call both must have the same in them.
type pair struct {
	t *testing.T
	c *coffer.Coffer
	m *model
}

func open(t *testing.T, n int, key uint64) *pair {
	t.Helper()
	p := &pair{t: t, c: coffer.Open(n, key), m: newModel(n, key)}
	p.same("Open")
	return p
}

// done checks what a call answered and that it did what it must, no less and
// no more.
func (p *pair) done(what string, got, want api.Errno) {
	p.t.Helper()
	if got != want {
		p.t.Fatalf("%s = %d, want %d", what, got, want)
	}
	p.same(what)
}

// same checks that the coffer has the objects and the shards of the model.
func (p *pair) same(behind string) {
	p.t.Helper()
	if d := difference(p.c, p.m); d != "" {
		p.t.Fatalf("behind %s: %s", behind, d)
	}
}

// difference tells the first of the objects and the shards in which a coffer
// is not as the model.
func difference(c *coffer.Coffer, m *model) string {
	objects := m.objects()
	if got := c.Objects(); !slices.Equal(got, objects) {
		return fmt.Sprintf("Objects = %v, want %v", got, objects)
	}
	for _, o := range objects {
		for i := range m.n {
			want, _ := m.shard(i, o.Name)
			if got, e := c.Shard(i, o.Name); got != want || e != api.OK {
				return fmt.Sprintf("Shard(%d, %q) = %q, %d, want %q", i, o.Name, got, e, want)
			}
		}
	}
	return ""
}

func (p *pair) put(name, value string, plan api.Plan, tape string) api.Errno {
	p.t.Helper()
	want := p.m.put(name, value, plan, tape)
	p.done("Put", p.c.Put(name, value, plan, tape), want)
	return want
}

func (p *pair) get(name string) (string, api.Errno) {
	p.t.Helper()
	want, e := p.m.get(name)
	got, gotErr := p.c.Get(name)
	if got != want {
		p.t.Fatalf("Get(%q) = %q, %d, want %q, %d", name, got, gotErr, want, e)
	}
	p.done("Get", gotErr, e)
	return want, e
}

// getAll gets each object.
func (p *pair) getAll() {
	p.t.Helper()
	for _, o := range p.m.objects() {
		p.get(o.Name)
	}
}

func (p *pair) delete(name string) api.Errno {
	p.t.Helper()
	want := p.m.delete(name)
	p.done("Delete", p.c.Delete(name), want)
	return want
}

func (p *pair) refresh(name, tape string) api.Errno {
	p.t.Helper()
	want := p.m.refresh(name, tape)
	p.done("Refresh", p.c.Refresh(name, tape), want)
	return want
}

func (p *pair) up(store int, up bool) api.Errno {
	p.t.Helper()
	want := p.m.up(store, up)
	p.done("Up", p.c.Up(store, up), want)
	return want
}

func (p *pair) spoil(store int, name string, at int, with byte) api.Errno {
	p.t.Helper()
	want := p.m.spoil(store, name, at, with)
	p.done("Spoil", p.c.Spoil(store, name, at, with), want)
	return want
}

func (p *pair) shard(store int, name string) (string, api.Errno) {
	p.t.Helper()
	want, e := p.m.shard(store, name)
	got, gotErr := p.c.Shard(store, name)
	if got != want {
		p.t.Fatalf("Shard(%d, %q) = %q, %d, want %q, %d", store, name, got, gotErr, want, e)
	}
	p.done("Shard", gotErr, e)
	return want, e
}

// forge makes of a store's shard, byte by byte, another that is just as long.
func (p *pair) forge(store int, name, other string) {
	p.t.Helper()
	made, _ := p.m.shard(store, name)
	for at := range len(made) {
		if with := made[at] ^ other[at]; with != 0 {
			p.spoil(store, name, at, with)
		}
	}
}

// must stops a test whose own words are not what the model answers.
func must(t *testing.T, what string, got, want api.Errno) {
	t.Helper()
	if got != want {
		t.Fatalf("%s = %d, want %d", what, got, want)
	}
}
