package coffer_test

import (
	"math"
	"slices"
	"testing"

	"coffer/api"
)

func TestUp(t *testing.T) {
	for n := 1; n <= api.MaxStores; n++ {
		p := open(t, n, 1)
		must(t, "Put", p.put("name", "value", disperse(1), ""), api.OK)
		for i := range n {
			for _, up := range []bool{true, false, false, true, false} {
				must(t, "Up", p.up(i, up), api.OK)
				_, e := p.get("name")
				if lastDown := i == n-1 && !up; lastDown != (e == api.ErrFew) {
					t.Fatalf("Get with store %d up: %v, and those ahead down = %d", i, up, e)
				}
			}
		}
		for i := range n {
			must(t, "Delete while one is down", p.delete("name"), api.ErrDown)
			must(t, "Up", p.up(i, true), api.OK)
		}
		must(t, "Delete", p.delete("name"), api.OK)
	}
}

func TestUpOfNoStore(t *testing.T) {
	p := open(t, 3, 1)
	must(t, "Put", p.put("name", "value", disperse(3), ""), api.OK)
	for _, i := range numbers() {
		if i >= 0 && i < 3 {
			continue
		}
		must(t, "Up of no store", p.up(i, false), api.ErrStore)
		must(t, "Up of no store", p.up(i, true), api.ErrStore)
		_, e := p.get("name")
		must(t, "Get", e, api.OK)
	}
}

func TestSpoil(t *testing.T) {
	for _, c := range []struct {
		name, value string
		plan        api.Plan
	}{
		{"name", "value", disperse(3)}, {"n", "", share(2, 2)}, {"123456789012", noise(60, 1), share(1, 1)},
	} {
		p := open(t, 3, 12)
		must(t, "Put", p.put(c.name, c.value, c.plan, noise(9, 1)), api.OK)
		must(t, "Put", p.put("another", "value", disperse(3), ""), api.OK)
		made, _ := p.shard(1, c.name)
		for at := range len(made) {
			for _, with := range []byte{0, 1, 128, 255} {
				must(t, "Spoil", p.spoil(1, c.name, at, with), api.OK)
				p.getAll()
				must(t, "Spoil once more", p.spoil(1, c.name, at, with), api.OK)
			}
			p.getAll()
		}
		if got, _ := p.shard(1, c.name); got != made {
			t.Errorf("Shard = %q, spoilt twice in the same way, want %q", got, made)
		}
		for _, at := range []int{math.MinInt, -1, len(made), len(made) + 1, 256, math.MaxInt} {
			must(t, "Spoil of no byte", p.spoil(1, c.name, at, 1), api.ErrPlace)
			must(t, "Spoil of no byte with nothing", p.spoil(1, c.name, at, 0), api.ErrPlace)
		}
	}
}

// A shard that is spoilt at two bytes is good only when both are mended.
func TestSpoilOfFirstAndLast(t *testing.T) {
	p := wanting(t, 4)
	made, _ := p.shard(2, "name")
	last := len(made) - 1
	for _, at := range []int{0, last} {
		p.spoil(2, "name", at, 9)
		_, e := p.get("name")
		must(t, "Get of what is spoilt", e, api.ErrFew)
	}
	p.spoil(2, "name", 0, 9)
	_, e := p.get("name")
	must(t, "Get of what is half mended", e, api.ErrFew)
	p.spoil(2, "name", last, 9)
	_, e = p.get("name")
	must(t, "Get of what is mended", e, api.OK)
}

func TestSpoilAndShardWhileDown(t *testing.T) {
	p := wanting(t, 4)
	for i := range 3 {
		p.up(i, false)
		must(t, "Spoil while down", p.spoil(i, "name", 11, 5), api.OK)
		_, e := p.shard(i, "name")
		must(t, "Shard while down", e, api.OK)
		p.up(i, true)
		_, e = p.get("name")
		must(t, "Get of what was spoilt while down", e, api.ErrFew)
		must(t, "Spoil", p.spoil(i, "name", 11, 5), api.OK)
	}
	p.getAll()
}

func TestSpoilAndShardErrors(t *testing.T) {
	p := wanting(t, 4)
	p.up(1, false)
	for _, store := range numbers() {
		for _, name := range []string{"name", "", "nam", "names", "1234567890123"} {
			for _, at := range []int{0, 12, 1000, -1} {
				want := api.OK
				switch {
				case store < 0 || store > 2:
					want = api.ErrStore
				case name != "name":
					want = api.ErrNone
				case at < 0 || at > 20:
					want = api.ErrPlace
				}
				must(t, "Spoil", p.spoil(store, name, at, 3), want)
				if want == api.ErrPlace {
					want = api.OK
				}
				_, e := p.shard(store, name)
				must(t, "Shard", e, want)
			}
		}
	}
}

func TestObjects(t *testing.T) {
	p := filled(t, 2)
	var names []string
	for _, o := range p.c.Objects() {
		names = append(names, o.Name)
	}
	want := []string{"\x00", "12345678901", "123456789012", "B", "a", "b", "b\x00", "ba", "bb", "\xff"}
	if !slices.Equal(names, want) {
		t.Errorf("Objects are %q, want %q", names, want)
	}
	p.up(0, false)
	p.spoil(1, "b", 0, 1)
	if got := p.c.Objects(); !slices.Equal(got, p.m.objects()) {
		t.Errorf("Objects with one down = %v", got)
	}
	p.up(0, true)
	for i, name := range tenNames() {
		must(t, "Delete", p.delete(name), api.OK)
		if got := p.c.Objects(); len(got) != 9-i {
			t.Errorf("Objects = %v, want %d", got, 9-i)
		}
	}
}

func TestObjectsTellWhatIsKnown(t *testing.T) {
	p := open(t, 8, 1)
	must(t, "Put", p.put("b", noise(60, 1), share(3, 4), noise(100, 1)), api.OK)
	must(t, "Put", p.put("a", "", disperse(8), ""), api.OK)
	must(t, "Refresh", p.refresh("b", noise(100, 2)), api.OK)
	must(t, "Refresh", p.refresh("b", noise(100, 3)), api.OK)
	want := []api.Object{{Name: "a", Plan: disperse(8), Size: 0, Epoch: 0}, {Name: "b", Plan: share(3, 4), Size: 60, Epoch: 2}}
	if got := p.c.Objects(); !slices.Equal(got, want) {
		t.Errorf("Objects = %v, want %v", got, want)
	}
}
