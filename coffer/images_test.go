package coffer_test

import (
	"slices"
	"strings"
	"testing"

	"coffer/api"
	"coffer/coffer"
)

// holds checks that each store's image has its shards in it.
func (p *pair) holds(images []string) {
	p.t.Helper()
	if len(images) != p.m.n {
		p.t.Fatalf("Images = %d, want %d", len(images), p.m.n)
	}
	for _, o := range p.m.objects() {
		for i, image := range images {
			if made, _ := p.m.shard(i, o.Name); !strings.Contains(image, made) {
				p.t.Fatalf("the image of store %d does not have the shard of %q", i, o.Name)
			}
		}
	}
}

func TestImagesHaveTheShards(t *testing.T) {
	for _, s := range scenes() {
		p := s.build(t)
		images, writes := p.c.Images(), p.c.Writes()
		p.holds(images)
		p.unchanged("Images", images, writes)
		p.same("Images")
		p.up(0, false)
		p.unchanged("Up", images, writes)
		for _, o := range p.m.objects() {
			p.spoil(0, o.Name, 0, 255)
			p.spoil(p.m.n-1, o.Name, 9, 13)
			p.holds(p.c.Images())
		}
		p.goOn()
		p.holds(p.c.Images())
	}
}

// A write is seen between the images behind so many writes and one more.
func TestAWriteChangesOneStore(t *testing.T) {
	forEachChange(t, func(t *testing.T, s scene, c change) {
		last, changed := s.build(t).c.Images(), 0
		step := 0
		s.forEachCrash(t, c, func(p *pair, before, after *model, crashed bool) {
			images := p.c.Images()
			at := differing(last, images)
			if len(images) != p.m.n || at > 1 || step == 0 && at > 0 {
				t.Fatalf("write %d changes what lies at %d stores", step, at)
			}
			if !crashed {
				p.holds(images)
			}
			last, changed, step = images, changed+at, step+1
		})
		if changed == 0 {
			t.Fatal("no write changes what lies at a store")
		}
	})
}

func TestReopenAtEveryCrash(t *testing.T) {
	forEachChange(t, func(t *testing.T, s scene, c change) {
		s.forEachCrash(t, c, func(p *pair, before, after *model, crashed bool) {
			images := p.c.Images()
			may := []*model{before, after}
			if !crashed {
				may = []*model{after}
			}
			first := reopen(t, images, may...)
			if got := first.c.Writes(); !crashed && got != 0 {
				t.Fatalf("Writes of a coffer that was reopened = %d", got)
			}
			second := reopen(t, images, first.m)
			first.goOn()
			second.same("Reopen, another having gone on")
			third := reopen(t, images, second.m)
			third.holds(third.c.Images())
			reopen(t, third.c.Images(), third.m).goOn()
			third.same("Reopen of its images")
			if !slices.Equal(p.c.Images(), images) {
				t.Fatal("Reopen changes what lies at the stores of another")
			}
			must(t, "Recover", p.c.Recover(), api.OK)
			p.adopt("Recover", may...)
			reopen(t, p.c.Images(), p.m).goOn()
			p.goOn()
			reopen(t, p.c.Images(), p.m).goOn()
		})
	})
}

// A coffer that was reopened crashes as any other.
func TestCrashOfWhatWasReopened(t *testing.T) {
	for _, s := range scenes() {
		again := s
		again.build = func(t *testing.T) *pair {
			p := s.build(t)
			return reopen(t, p.c.Images(), p.m)
		}
		for _, c := range s.changes {
			again.forEachCrash(t, c, func(p *pair, before, after *model, crashed bool) {
				if !crashed {
					return
				}
				p.refuses()
				half := reopen(t, p.c.Images(), before, after)
				must(t, "Recover", p.c.Recover(), api.OK)
				p.adopt("Recover", before, after)
				half.goOn()
				p.goOn()
			})
		}
	}
}

// What is not at the stores does not come back: whether they are up, and what
// CrashAt was told.
func TestReopenForgets(t *testing.T) {
	for _, crash := range []bool{false, true} {
		p := several(t, 4)
		after := p.m.clone()
		if crash {
			after = behind(t, p.m, deleting("shared"))
			p.c.CrashAt(1)
			must(t, "Delete", p.c.Delete("shared"), api.ErrCrash)
		}
		for i := range 3 {
			must(t, "Up", p.c.Up(i, false), api.OK)
		}
		p.c.CrashAt(0)
		again := reopen(t, p.c.Images(), p.m, after)
		must(t, "Recover of what was reopened", again.c.Recover(), api.OK)
		again.getAll()
		writes := again.c.Writes()
		must(t, "Put", again.put("new", "value", share(2, 2), noise(9, 9)), api.OK)
		if got := again.c.Writes(); got <= writes {
			t.Errorf("Writes behind Put = %d, and %d ahead of it", got, writes)
		}
		again.goOn()
	}
}

func TestReopenOfACofferWithNothing(t *testing.T) {
	for n := 1; n <= api.MaxStores; n++ {
		p := open(t, n, 7)
		p.holds(p.c.Images())
		again := reopen(t, p.c.Images(), p.m)
		if got := again.c.Writes(); got != 0 {
			t.Errorf("Writes = %d", got)
		}
		must(t, "Up behind the last", again.up(n, true), api.ErrStore)
		must(t, "Put at a store too many", again.put("a", "", disperse(n+1), ""), api.ErrPlan)
		again.goOn()
		for _, name := range tenNames() {
			must(t, "Delete", again.delete(name), api.OK)
		}
		reopen(t, again.c.Images(), again.m).goOn()
	}
}

func TestReopenOfAllPlans(t *testing.T) {
	for n := 1; n <= api.MaxStores; n++ {
		for _, plan := range plans(n) {
			p := open(t, n, uint64(n))
			for i, size := range sizes(plan)[:9] {
				must(t, "Put", p.put(tenNames()[i], noise(size, uint32(n)), plan, longTape(uint32(i))), api.OK)
				p.refresh(tenNames()[i], longTape(1))
			}
			again := reopen(t, p.c.Images(), p.m)
			again.getAll()
			again.goOn()
		}
	}
}

// Shards that were spoilt come back as they are, whatever they look like.
func TestReopenOfWhatIsSpoilt(t *testing.T) {
	p := several(t, 3)
	for _, o := range p.m.objects() {
		for i := range 3 {
			made, _ := p.m.shard(i, o.Name)
			for _, other := range []string{strings.Repeat("\x00", len(made)), strings.Repeat("\x01", len(made)), strings.Repeat("\xff", len(made)), noise(len(made), 5)} {
				p.forge(i, o.Name, other)
				again := reopen(t, p.c.Images(), p.m)
				again.getAll()
			}
		}
	}
	again := reopen(t, p.c.Images(), p.m)
	for _, o := range again.m.objects() {
		_, e := again.get(o.Name)
		must(t, "Get of what is spoilt at all stores", e, api.ErrFew)
	}
	again.goOn()
}

func TestReopenExample(t *testing.T) {
	p := open(t, 3, 8)
	must(t, "Put", p.put("k", "ab", disperse(2), ""), api.OK)
	again := reopen(t, p.c.Images(), p.m)
	if value, e := again.get("k"); value != "ab" || e != api.OK {
		t.Errorf("Get = %q, %d", value, e)
	}
	if c, e := coffer.Reopen(nil, 8); c != nil || e != api.ErrImages {
		t.Errorf("Reopen of none = %v, %d", c, e)
	}
}
