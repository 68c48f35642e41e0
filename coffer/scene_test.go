package coffer_test

import (
	"fmt"
	"slices"
	"testing"

	"coffer/api"
	"coffer/coffer"
)

// change is a call that writes, to be done to a coffer and to the model.
type change struct {
	what   string
	coffer func(*coffer.Coffer) api.Errno
	model  func(*model) api.Errno
}

func putting(name, value string, p api.Plan, tape string) change {
	return change{
		fmt.Sprintf("Put(%q, %d bytes, %v)", name, len(value), p),
		func(c *coffer.Coffer) api.Errno { return c.Put(name, value, p, tape) },
		func(m *model) api.Errno { return m.put(name, value, p, tape) },
	}
}

func deleting(name string) change {
	return change{
		fmt.Sprintf("Delete(%q)", name),
		func(c *coffer.Coffer) api.Errno { return c.Delete(name) },
		func(m *model) api.Errno { return m.delete(name) },
	}
}

func refreshing(name, tape string) change {
	return change{
		fmt.Sprintf("Refresh(%q)", name),
		func(c *coffer.Coffer) api.Errno { return c.Refresh(name, tape) },
		func(m *model) api.Errno { return m.refresh(name, tape) },
	}
}

// do does a change to both and checks it.
func (p *pair) do(c change) api.Errno {
	p.t.Helper()
	want := c.model(p.m)
	p.done(c.what, c.coffer(p.c), want)
	return want
}

// scene is a coffer, to be made anew as often as it is asked for, and what can
// be done there: all of it is done, if nothing crashes.
type scene struct {
	what    string
	build   func(*testing.T) *pair
	changes []change
}

// behind is another model, in which a change is done.
func behind(t *testing.T, m *model, c change) *model {
	t.Helper()
	m = m.clone()
	must(t, c.what, c.model(m), api.OK)
	return m
}

// several has objects of all kinds, one of them spoilt at one store, at n
// stores.
func several(t *testing.T, n int) *pair {
	t.Helper()
	p := open(t, n, uint64(n)<<40+9)
	must(t, "Put", p.put("shared", noise(11, 1), share((n+1)/2, n/2+1), noise(99, 2)), api.OK)
	must(t, "Put", p.put("dispersed", noise(13, 3), disperse((n+1)/2), ""), api.OK)
	must(t, "Put", p.put("none", "", share(n, 1), ""), api.OK)
	must(t, "Put", p.put("spoilt", noise(7, 4), share(1, n), ""), api.OK)
	must(t, "Refresh", p.refresh("shared", noise(99, 5)), api.OK)
	must(t, "Spoil", p.spoil(n/2, "spoilt", 3, 77), api.OK)
	return p
}

func severalChanges(n int) []change {
	return []change{
		putting("a", noise(5, 1), share(n, 1), noise(99, 1)),
		putting("z", noise(60, 2), disperse(n), ""),
		putting("123456789012", "", share(1, 1), ""),
		putting("no", "", disperse(1), ""),
		deleting("shared"),
		deleting("dispersed"),
		deleting("none"),
		deleting("spoilt"),
		refreshing("shared", noise(99, 6)),
		refreshing("none", ""),
	}
}

// forged has an object whose shards are, but for the tag, those of another.
func forged(t *testing.T) *pair {
	t.Helper()
	p := several(t, 3)
	must(t, "Put", p.put("derahs", noise(11, 8), share(2, 2), noise(99, 2)), api.OK)
	for i := range 3 {
		other, _ := p.m.shard(i, "shared")
		p.forge(i, "derahs", other)
	}
	return p
}

// inEpoch has an object in that epoch.
func inEpoch(t *testing.T, epoch int) *pair {
	t.Helper()
	p := open(t, 3, 6)
	must(t, "Put", p.put("old", noise(4, 1), share(2, 1), noise(4, 1)), api.OK)
	for i := range epoch {
		must(t, "Refresh", p.refresh("old", noise(4, uint32(i))), api.OK)
	}
	return p
}

func scenes() []scene {
	var all []scene
	for n := 1; n <= api.MaxStores; n++ {
		all = append(all, scene{
			fmt.Sprintf("several objects at %d stores", n),
			func(t *testing.T) *pair { return several(t, n) },
			severalChanges(n),
		})
	}
	return append(all,
		scene{
			"no objects",
			func(t *testing.T) *pair { return open(t, 4, 1) },
			[]change{putting("first", "value", share(2, 2), noise(3, 1)), putting("f", "", disperse(4), "")},
		},
		scene{
			"shards that are another's",
			forged,
			[]change{putting("s", "value", share(1, 1), ""), deleting("derahs"), deleting("shared"), refreshing("shared", noise(99, 6))},
		},
		scene{
			"all objects but one",
			func(t *testing.T) *pair {
				p := filled(t, 3)
				must(t, "Delete", p.delete("bb"), api.OK)
				return p
			},
			[]change{putting("bb", "anew", share(3, 1), noise(8, 1)), putting("new", "", share(1, 1), ""), deleting("b"), refreshing("\xff", "")},
		},
		scene{
			"all objects",
			func(t *testing.T) *pair { return filled(t, 3) },
			[]change{deleting("\x00"), deleting("\xff"), refreshing("b", "")},
		},
		scene{
			"ahead of the last epoch",
			func(t *testing.T) *pair { return inEpoch(t, api.MaxEpoch-1) },
			[]change{refreshing("old", noise(4, 9)), deleting("old")},
		},
		scene{
			"in the last epoch",
			func(t *testing.T) *pair { return inEpoch(t, api.MaxEpoch) },
			[]change{deleting("old"), putting("young", "value", share(1, 1), "")},
		},
	)
}

// forEachChange does something with each change of each scene.
func forEachChange(t *testing.T, do func(*testing.T, scene, change)) {
	for _, s := range scenes() {
		for _, c := range s.changes {
			t.Run(s.what+"/"+c.what, func(t *testing.T) { do(t, s, c) })
		}
	}
}

// adopt takes the model that the coffer is as, of those that it may be.
func (p *pair) adopt(behind string, may ...*model) {
	p.t.Helper()
	var all []string
	for _, m := range may {
		d := difference(p.c, m)
		if d == "" {
			p.m = m.clone()
			return
		}
		all = append(all, d)
	}
	p.t.Fatalf("behind %s: %q", behind, all)
}

// crashed does a change that is to crash behind so many writes. It tells
// whether it did; the pair's model is that ahead of the change if it did, else
// that behind it.
func (p *pair) crashed(c change, after *model, writes int) bool {
	p.t.Helper()
	before := p.c.Writes()
	p.c.CrashAt(writes)
	e := c.coffer(p.c)
	done := p.c.Writes() - before
	if e == api.OK {
		if done > writes || done < 1 {
			p.t.Fatalf("%s is done by %d writes, the one behind %d crashing", c.what, done, writes)
		}
		p.m = after.clone()
		p.same(c.what)
		p.c.CrashAt(-1)
		return false
	}
	if e != api.ErrCrash || done != writes {
		p.t.Fatalf("%s = %d behind %d writes, the one behind %d crashing", c.what, e, done, writes)
	}
	return true
}

// forEachCrash makes the scene anew for each write of a change at which it can
// crash, and, at the end, for the change that is done.
func (s scene) forEachCrash(t *testing.T, c change, do func(p *pair, before, after *model, crashed bool)) {
	t.Helper()
	for writes := 0; writes <= 1000; writes++ {
		p := s.build(t)
		before, after := p.m.clone(), behind(t, p.m, c)
		crashed := p.crashed(c, after, writes)
		do(p, before, after, crashed)
		if !crashed {
			return
		}
	}
	t.Fatalf("%s crashes behind 1000 writes", c.what)
}

// goOn checks that a coffer is of use: that all its objects can be told and
// changed, and others put.
func (p *pair) goOn() {
	p.t.Helper()
	for i := range p.m.n {
		p.up(i, true)
	}
	p.getAll()
	for _, o := range p.m.objects() {
		p.refresh(o.Name, longTape(8))
		p.get(o.Name)
	}
	for _, o := range p.m.objects() {
		must(p.t, "Delete", p.delete(o.Name), api.OK)
	}
	for i, name := range tenNames() {
		plan := plans(p.m.n)[i%len(plans(p.m.n))]
		must(p.t, "Put", p.put(name, noise(i, 1), plan, longTape(7)), api.OK)
	}
	p.getAll()
}

// longTape is enough for every plan and value.
func longTape(seed uint32) string { return noise(api.MaxValue*api.MaxStores, seed) }

// reopen is another coffer, out of images, that must be as one of the models.
func reopen(t *testing.T, images []string, may ...*model) *pair {
	t.Helper()
	handed := slices.Clone(images)
	c, e := coffer.Reopen(handed, may[0].key)
	if c == nil || e != api.OK {
		t.Fatalf("Reopen of %q = %v, %d", images, c, e)
	}
	if !slices.Equal(handed, images) {
		t.Fatal("Reopen writes into what is handed in")
	}
	p := &pair{t: t, c: c}
	p.adopt("Reopen", may...)
	p.m.down = [api.MaxStores]bool{}
	return p
}
