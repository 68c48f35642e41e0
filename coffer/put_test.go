package coffer_test

import (
	"math"
	"slices"
	"strings"
	"testing"

	"coffer/api"
	"coffer/coffer"
)

func TestOpen(t *testing.T) {
	for _, c := range []struct{ n, stores int }{
		{math.MinInt, 1}, {-1, 1}, {0, 1}, {1, 1}, {2, 2}, {3, 3}, {4, 4}, {5, 5}, {6, 6}, {7, 7}, {8, 8}, {9, 8}, {10, 8}, {256, 8}, {math.MaxInt, 8},
	} {
		p := open(t, c.n, 3)
		if got := p.c.Objects(); len(got) != 0 {
			t.Errorf("Open(%d): Objects = %v", c.n, got)
		}
		must(t, "Put at a store too many", p.put("a", "v", disperse(c.stores+1), ""), api.ErrPlan)
		must(t, "Put at all stores", p.put("a", "v", disperse(c.stores), ""), api.OK)
		for i := range c.stores {
			must(t, "Up", p.up(i, true), api.OK)
			made, _ := p.shard(i, "a")
			if made[3] != byte(c.stores) || made[4] != byte(i) {
				t.Errorf("Open(%d): Shard(%d) = %q", c.n, i, made)
			}
		}
		must(t, "Up behind the last", p.up(c.stores, true), api.ErrStore)
	}
}

func TestPutShards(t *testing.T) {
	c := coffer.Open(3, 0)
	must(t, "Put", c.Put("k", "ab", disperse(2), ""), api.OK)
	must(t, "Put", c.Put("\xff\x00", "\x07\x00", share(2, 2), "\x07"), api.OK)
	for _, x := range []struct {
		store int
		name  string
		ahead string
	}{
		{0, "k", "\x01\x02\x01\x03\x00\x00\x00\x00\x02\x01ka"},
		{1, "k", "\x01\x02\x01\x03\x01\x00\x00\x00\x02\x01kb"},
		{2, "k", "\x01\x02\x01\x03\x02\x00\x00\x00\x02\x01kc"},
		{2, "\xff\x00", "\x00\x02\x02\x03\x02\x00\x00\x00\x02\x02\xff\x00" + referenceSplit("\x07\x00", share(2, 2), 3, "\x07")[2]},
	} {
		want := tagged(x.ahead, 0)
		if got, e := c.Shard(x.store, x.name); got != want || e != api.OK {
			t.Errorf("Shard(%d, %q) = %q, %d, want %q", x.store, x.name, got, e, want)
		}
	}
}

// The tag's beginning and factor are those of FNV-1a, so that its known
// answers are those of the key 0.
func TestTagged(t *testing.T) {
	for text, want := range map[string]string{"": "\xcb\xf2\x9c\xe4\x84\x22\x23\x25", "a": "\xaf\x63\xdc\x4c\x86\x01\xec\x8c", "foobar": "\x85\x94\x41\x71\xf7\x39\x67\xe8"} {
		if got := tagged(text, 0); got != text+want {
			t.Errorf("tagged(%q) = %q, want %q behind it", text, got, want)
		}
	}
}

func TestPutOfAllPlans(t *testing.T) {
	for n := 1; n <= api.MaxStores; n++ {
		for _, plan := range plans(n) {
			p := open(t, n, uint64(n)<<60+5)
			for i, size := range sizes(plan)[:9] {
				tape := noise(tapeNeed(plan, size), uint32(i))
				must(t, "Put", p.put(string(rune('a'+i)), noise(size, uint32(n)), plan, tape+"behind"), api.OK)
			}
			p.getAll()
		}
	}
}

func TestPutNames(t *testing.T) {
	p := open(t, 2, 1)
	for _, c := range []struct {
		name string
		e    api.Errno
	}{
		{"", api.ErrName}, {"a", api.OK}, {"1234567890a", api.OK}, {"1234567890ab", api.OK}, {"1234567890abc", api.ErrName}, {strings.Repeat("n", 1<<16), api.ErrName},
		{strings.Repeat("n", 256), api.ErrName}, {strings.Repeat("n", 257), api.ErrName}, {"\x00", api.OK}, {strings.Repeat("\x00", 12), api.OK}, {"\xff\xfe", api.OK}, {"A", api.OK}, {"a ", api.OK},
		{strings.Repeat("ü", 6), api.OK}, {strings.Repeat("ü", 7), api.ErrName},
	} {
		must(t, "Put", p.put(c.name, c.name, disperse(1), ""), c.e)
		if c.e == api.OK {
			_, e := p.get(c.name)
			must(t, "Get", e, api.OK)
		}
	}
}

func TestPutValues(t *testing.T) {
	for _, plan := range []api.Plan{share(1, 1), share(2, 1), share(1, 3), share(2, 2), disperse(1), disperse(3)} {
		for size, want := range map[int]api.Errno{0: api.OK, 1: api.OK, 59: api.OK, 60: api.OK, 61: api.ErrBig, 62: api.ErrBig, 256: api.ErrBig, 1 << 16: api.ErrBig} {
			p := open(t, 3, math.MaxUint64)
			must(t, "Put", p.put("name", noise(size, 9), plan, noise(1<<16, 1)), want)
			if want == api.OK {
				_, e := p.get("name")
				must(t, "Get", e, api.OK)
			}
		}
	}
	p := open(t, 3, 1)
	must(t, "Put of noughts", p.put("name", strings.Repeat("\x00", 60), share(3, 1), noise(120, 1)), api.OK)
	if value, e := p.get("name"); value != strings.Repeat("\x00", 60) || e != api.OK {
		t.Errorf("Get = %q, %d, want 60 noughts", value, e)
	}
}

// tenNames has some that are the beginning of others.
func tenNames() []string {
	return []string{"b", "ba", "a", "b\x00", "B", "bb", "123456789012", "\xff", "12345678901", "\x00"}
}

// filled is a pair with all the objects that there may be.
func filled(t *testing.T, n int) *pair {
	t.Helper()
	p := open(t, n, 77)
	for i, name := range tenNames() {
		must(t, "Put", p.put(name, noise(i, 3), share(1, 1), ""), api.OK)
	}
	return p
}

func TestPutOfOneTooMany(t *testing.T) {
	p := filled(t, 2)
	must(t, "Put of an eleventh", p.put("new", "", disperse(1), ""), api.ErrFull)
	must(t, "Put of one of the ten", p.put("a", "", disperse(1), ""), api.ErrTwice)
	must(t, "Delete", p.delete("b"), api.OK)
	must(t, "Put of a tenth", p.put("new", "", disperse(1), ""), api.OK)
	must(t, "Put of an eleventh", p.put("b", "", disperse(1), ""), api.ErrFull)
	p.getAll()
}

func TestPutWhileDown(t *testing.T) {
	for n := 1; n <= api.MaxStores; n++ {
		for i := range n {
			p := open(t, n, 4)
			must(t, "Up", p.up(i, false), api.OK)
			must(t, "Put while one is down", p.put("a", "v", disperse(1), ""), api.ErrDown)
			must(t, "Up", p.up(i, true), api.OK)
			must(t, "Put", p.put("a", "w", disperse(1), ""), api.OK)
			p.getAll()
		}
	}
}

// Of the errors that a call may answer, in their order, those apply whose bits
// are in the choice.

func applies(order []api.Errno, choice int, e api.Errno) bool {
	return choice>>slices.Index(order, e)&1 == 1
}

func first(order []api.Errno, choice int) api.Errno {
	for _, e := range order {
		if applies(order, choice, e) {
			return e
		}
	}
	return api.OK
}

func TestPutErrors(t *testing.T) {
	order := []api.Errno{api.ErrName, api.ErrPlan, api.ErrBig, api.ErrTwice, api.ErrFull, api.ErrTape, api.ErrDown}
	for choice := range 1 << len(order) {
		applies := func(e api.Errno) bool { return applies(order, choice, e) }
		p := open(t, 3, 8)
		must(t, "Put", p.put("there", "v", share(1, 1), ""), api.OK)
		for i := 1; applies(api.ErrFull) && i < api.MaxObjects; i++ {
			must(t, "Put", p.put(tenNames()[i], "v", share(1, 1), ""), api.OK)
		}
		name, value, plan, tape := "new", "value", share(2, 2), "tape"
		if applies(api.ErrTwice) {
			name = "there"
		}
		if applies(api.ErrName) {
			name = []string{"", "1234567890123"}[choice>>1&1]
		}
		if applies(api.ErrPlan) {
			plan = share(2, 3)
		}
		if applies(api.ErrBig) {
			value = strings.Repeat("v", 61)
		}
		if applies(api.ErrTape) {
			tape = "ta"
		} else if applies(api.ErrBig) {
			tape = strings.Repeat("t", 1000)
		}
		if applies(api.ErrDown) {
			p.up(choice%3, false)
		}
		must(t, "Put", p.put(name, value, plan, tape), first(order, choice))
		p.getAll()
	}
}

func TestPutOfNoPlan(t *testing.T) {
	p := open(t, 3, 1)
	for _, first := range numbers() {
		for _, second := range numbers() {
			for _, mode := range []int{math.MinInt, -1, api.Share, api.Disperse, 2, 256, math.MaxInt} {
				plan := api.Plan{Mode: mode, T: first, L: second}
				if want := p.put("a", "value", plan, noise(100, 1)); want == api.OK {
					must(t, "Delete", p.delete("a"), api.OK)
				}
			}
		}
	}
}
