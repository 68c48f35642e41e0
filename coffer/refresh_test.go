package coffer_test

import (
	"strings"
	"testing"

	"coffer/api"
)

func TestDelete(t *testing.T) {
	p := open(t, 3, 1)
	must(t, "Delete of nothing", p.delete("a"), api.ErrNone)
	must(t, "Put", p.put("a", "value", share(2, 1), "12345"), api.OK)
	must(t, "Put", p.put("ab", "other", share(2, 1), "54321"), api.OK)
	must(t, "Refresh", p.refresh("a", "12345"), api.OK)
	p.spoil(1, "a", 20, 7)
	for _, name := range []string{"", "A", "b", "abc", "1234567890123"} {
		must(t, "Delete of another", p.delete(name), api.ErrNone)
	}
	for i := range 3 {
		p.up(i, false)
		must(t, "Delete while one is down", p.delete("a"), api.ErrDown)
		must(t, "Delete of nothing while one is down", p.delete("b"), api.ErrNone)
		p.up(i, true)
	}
	must(t, "Delete of what is spoilt", p.delete("a"), api.OK)
	_, e := p.get("a")
	must(t, "Get of what was deleted", e, api.ErrNone)
	_, e = p.shard(1, "a")
	must(t, "Shard of what was deleted", e, api.ErrNone)
	must(t, "Spoil of what was deleted", p.spoil(1, "a", 0, 0), api.ErrNone)
	must(t, "Refresh of what was deleted", p.refresh("a", "12345"), api.ErrNone)
	must(t, "Delete of what was deleted", p.delete("a"), api.ErrNone)
	must(t, "Put of what was deleted", p.put("a", "anew", disperse(3), ""), api.OK)
	p.getAll()
}

func TestRefreshByNoughts(t *testing.T) {
	p := open(t, 4, 1)
	must(t, "Put", p.put("a", "value", share(3, 2), "abcdef"), api.OK)
	before, _ := p.m.piece("a", 3)
	must(t, "Refresh", p.refresh("a", strings.Repeat("\x00", 6)), api.OK)
	after, good := p.m.piece("a", 3)
	if o := p.c.Objects(); o[0].Epoch != 1 || before != after || !good {
		t.Errorf("Refresh by noughts made of %q %q, %v", before, after, o)
	}
	p.getAll()
}

func TestRefreshOfAllPlans(t *testing.T) {
	for n := 1; n <= api.MaxStores; n++ {
		for _, plan := range plans(n) {
			p := open(t, n, 7)
			want := api.OK
			if plan.Mode == api.Disperse {
				want = api.ErrMode
			}
			for i, size := range sizes(plan)[:9] {
				name, need := string(rune('a'+i)), tapeNeed(plan, size)
				must(t, "Put", p.put(name, noise(size, 5), plan, noise(need, 4)), api.OK)
				for epoch := range 3 {
					must(t, "Refresh", p.refresh(name, noise(need+epoch*50, uint32(epoch))), want)
				}
				p.get(name)
			}
		}
	}
}

// The pieces are made new each by itself: what is not of one value stays so.
func TestRefreshOfAnyPieces(t *testing.T) {
	for n := 1; n <= api.MaxStores; n++ {
		p := open(t, n, 7)
		plan := share((n+1)/2, n/2+1)
		size := 3 * plan.L
		must(t, "Put", p.put("a", noise(size, 1), plan, noise(tapeNeed(plan, size), 4)), api.OK)
		for i := range n {
			p.forgePiece(i, "a", noise(3, uint32(n*i)))
		}
		must(t, "Refresh", p.refresh("a", noise(tapeNeed(plan, size), 5)), api.OK)
		p.getAll()
	}
}

func TestRefreshToTheLastEpoch(t *testing.T) {
	p := open(t, 3, 7)
	must(t, "Put", p.put("a", "value", share(2, 2), noise(3, 1)), api.OK)
	must(t, "Put", p.put("b", "", share(3, 1), ""), api.OK)
	for epoch := range 100 {
		must(t, "Refresh", p.refresh("a", noise(3, uint32(epoch))), api.OK)
	}
	must(t, "Refresh in the last epoch", p.refresh("a", noise(3, 1)), api.ErrFull)
	must(t, "Refresh of another", p.refresh("b", ""), api.OK)
	p.getAll()
	if o := p.c.Objects(); o[0].Epoch != api.MaxEpoch || o[1].Epoch != 1 {
		t.Errorf("Objects = %v, want the epochs 100 and 1", o)
	}
	must(t, "Delete", p.delete("a"), api.OK)
	must(t, "Put", p.put("a", "anew", share(1, 1), ""), api.OK)
	must(t, "Refresh", p.refresh("a", ""), api.OK)
}

func TestRefreshErrors(t *testing.T) {
	order := []api.Errno{api.ErrNone, api.ErrMode, api.ErrFull, api.ErrTape, api.ErrDown, api.ErrBad}
	full := wanting(t, 3)
	for full.m.kept["name"].object.Epoch < api.MaxEpoch {
		must(t, "Refresh", full.refresh("name", noise(3, 1)), api.OK)
	}
	for choice := range 1 << len(order) {
		applies := func(e api.Errno) bool { return applies(order, choice, e) }
		p := wanting(t, 3)
		if applies(api.ErrFull) {
			p = full
		}
		name, tape, store := "name", "tap", choice%3
		if applies(api.ErrMode) {
			name = "dispersed"
			must(t, "Put", p.put(name, "value", disperse(2), ""), api.OK)
		}
		if applies(api.ErrBad) {
			p.spoil(store, name, choice%10, 1)
		}
		asked := name
		if applies(api.ErrNone) {
			asked = "nothing"
		}
		if applies(api.ErrTape) {
			tape = "ta"
		}
		if applies(api.ErrDown) {
			p.up(choice/3%3, false)
		}
		must(t, "Refresh", p.refresh(asked, tape), first(order, choice))
		p.up(choice/3%3, true)
		if applies(api.ErrBad) {
			p.spoil(store, name, choice%10, 1)
		}
		if applies(api.ErrMode) {
			must(t, "Delete", p.delete(name), api.OK)
		}
		p.getAll()
	}
}

func TestRefreshWithOneShardSpoilt(t *testing.T) {
	for n := 1; n <= api.MaxStores; n++ {
		for _, plan := range []api.Plan{share(1, 1), share(n, 1), share(1, n)} {
			p := open(t, n, 3)
			must(t, "Put", p.put("name", "value", plan, noise(100, 1)), api.OK)
			made, _ := p.m.shard(0, "name")
			for store := range n {
				for _, at := range []int{0, 10, 14, len(made) - 1} {
					p.spoil(store, "name", at, 2)
					must(t, "Refresh", p.refresh("name", noise(100, 2)), api.ErrBad)
					p.spoil(store, "name", at, 2)
				}
			}
			must(t, "Refresh", p.refresh("name", noise(100, 2)), api.OK)
			p.getAll()
		}
	}
}
