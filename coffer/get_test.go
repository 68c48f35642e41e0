package coffer_test

import (
	"testing"

	"coffer/api"
)

func TestGetExample(t *testing.T) {
	p := open(t, 3, 11)
	must(t, "Put", p.put("k", "ab", disperse(2), ""), api.OK)
	want := func(value string, e api.Errno) {
		t.Helper()
		if got, gotErr := p.get("k"); got != value || gotErr != e {
			t.Errorf("Get = %q, %d, want %q, %d", got, gotErr, value, e)
		}
	}
	want("ab", api.OK)
	p.up(0, false)
	want("ab", api.OK)
	p.up(1, false)
	want("", api.ErrFew)
	p.up(1, true)
	p.spoil(2, "k", 0, 1)
	want("", api.ErrFew)
	p.spoil(2, "k", 0, 1)
	want("ab", api.OK)
}

func TestGetOfNothing(t *testing.T) {
	p := open(t, 2, 1)
	for _, name := range []string{"", "a", "aa", "1234567890123"} {
		_, e := p.get(name)
		must(t, "Get", e, api.ErrNone)
	}
	must(t, "Put", p.put("ab", "value", disperse(2), ""), api.OK)
	p.up(0, false)
	for _, name := range []string{"", "a", "b", "abc", "AB", "ab\x00", "1234567890123"} {
		_, e := p.get(name)
		must(t, "Get of another", e, api.ErrNone)
	}
	_, e := p.get("ab")
	must(t, "Get", e, api.ErrFew)
}

// out takes a store out, or lets it in again: by turns it is down, its shard
// is spoilt, or both.
func (p *pair) out(store int, name string, out bool) {
	p.t.Helper()
	if store%3 != 1 {
		p.up(store, !out)
	}
	if store%3 != 0 {
		p.spoil(store, name, store, 128)
	}
}

// forEachChoice takes the stores of each choice out, one choice after another,
// such that from one to the next one store alone changes.
func (p *pair) forEachChoice(name string, do func(in int)) {
	p.t.Helper()
	do(p.m.n)
	out := 0
	for step := 1; step < 1<<p.m.n; step++ {
		store := 0
		for step>>store&1 == 0 {
			store++
		}
		out ^= 1 << store
		p.out(store, name, out>>store&1 == 1)
		in := p.m.n
		for i := range p.m.n {
			in -= out >> i & 1
		}
		do(in)
	}
}

func TestGetFromEveryChoice(t *testing.T) {
	for n := 1; n <= api.MaxStores; n++ {
		for i, plan := range plans(n) {
			p := open(t, n, 9)
			value := noise(i%7, 6)
			must(t, "Put", p.put("name", value, plan, noise(tapeNeed(plan, len(value)), 8)), api.OK)
			p.forEachChoice("name", func(in int) {
				got, e := p.get("name")
				if in < threshold(plan) {
					must(t, "Get from too few", e, api.ErrFew)
				} else if got != value || e != api.OK {
					t.Fatalf("Get by %v from %d = %q, %d, want %q", plan, in, got, e, value)
				}
			})
		}
	}
}

// Of pieces that are not of one value each choice gives another; so it is seen
// which stores the value is put together from.
func TestGetTakesTheFirst(t *testing.T) {
	for n := 1; n <= api.MaxStores; n++ {
		for _, plan := range plans(n) {
			p := open(t, n, 99)
			size := 2 * groupSize(plan)
			must(t, "Put", p.put("name", noise(size, 1), plan, noise(tapeNeed(plan, size), 8)), api.OK)
			for i := range n {
				p.forgePiece(i, "name", noise(2, uint32(1000*n+i)))
			}
			p.forEachChoice("name", func(int) { p.get("name") })
		}
	}
}

// forgePiece lets a store have a good shard with another piece in it.
func (p *pair) forgePiece(store int, name, piece string) {
	p.t.Helper()
	p.forge(store, name, tagged(p.m.head(p.m.kept[name].object, store)+piece, p.m.key))
	if _, good := p.m.piece(name, store); !good {
		p.t.Fatalf("the shard forged at store %d is not good", store)
	}
}

// wanting is a pair with an object that needs all its stores, so that one
// shard that is not good is seen.
func wanting(t *testing.T, key uint64) *pair {
	t.Helper()
	p := open(t, 3, key)
	must(t, "Put", p.put("name", "value", share(2, 2), noise(3, 7)), api.OK)
	must(t, "Put", p.put("eman", "value", share(2, 2), noise(3, 7)), api.OK)
	must(t, "Refresh", p.refresh("name", noise(3, 1)), api.OK)
	return p
}

// bad checks that a shard is not good while it is the other.
func (p *pair) bad(store int, other string) {
	p.t.Helper()
	made, _ := p.m.shard(store, "name")
	p.forge(store, "name", other)
	_, e := p.get("name")
	must(p.t, "Get with a shard that is not good", e, api.ErrFew)
	must(p.t, "Refresh with a shard that is not good", p.refresh("name", noise(3, 2)), api.ErrBad)
	p.forge(store, "name", made)
	_, e = p.get("name")
	must(p.t, "Get with the shard as it was", e, api.OK)
}

func TestShardsThatAreNotGood(t *testing.T) {
	p := wanting(t, 5)
	for store := range 3 {
		made, _ := p.m.shard(store, "name")
		ahead := made[:len(made)-8]
		for at := range len(made) {
			for _, with := range []byte{1, 128, 255} {
				spoilt := []byte(made)
				spoilt[at] ^= with
				p.bad(store, string(spoilt))
			}
		}
		// A head that is not the shard's own is not mended by a tag of its own.
		for at := range len(p.m.head(p.m.kept["name"].object, store)) {
			other := []byte(ahead)
			other[at] ^= 1
			p.bad(store, tagged(string(other), 5))
		}
		p.bad(store, tagged(ahead, 6))
		emans, _ := p.m.shard(store, "eman")
		p.bad(store, emans)
		next, _ := p.m.shard((store+1)%3, "name")
		p.bad(store, next)
	}
}

func TestShardOfAnEpochAgo(t *testing.T) {
	p := wanting(t, 1<<63)
	before, _ := p.m.shard(1, "name")
	must(t, "Refresh", p.refresh("name", noise(3, 4)), api.OK)
	p.bad(1, before)
}

func TestGetLeavesThingsAsTheyAre(t *testing.T) {
	p := wanting(t, 2)
	p.spoil(0, "name", 3, 3)
	p.up(2, false)
	for range 3 {
		_, e := p.get("name")
		must(t, "Get", e, api.ErrFew)
	}
	p.up(2, true)
	_, e := p.get("name")
	must(t, "Get, nothing being mended", e, api.ErrFew)
}
