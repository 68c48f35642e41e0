package coffer_test

import (
	"math"
	"slices"
	"strings"
	"testing"

	"coffer/api"
)

func TestRecoverFromEveryCrash(t *testing.T) {
	forEachChange(t, func(t *testing.T, s scene, c change) {
		s.forEachCrash(t, c, func(p *pair, before, after *model, crashed bool) {
			images, writes := p.c.Images(), p.c.Writes()
			must(t, "Recover", p.c.Recover(), api.OK)
			if !crashed {
				p.unchanged("Recover of what has not crashed", images, writes)
				p.goOn()
				return
			}
			p.adopt("Recover", before, after)
			if changed := differing(images, p.c.Images()); p.c.Writes()-writes < changed {
				t.Fatalf("Recover changes what lies at %d stores by %d writes", changed, p.c.Writes()-writes)
			}
			images, writes = p.c.Images(), p.c.Writes()
			must(t, "Recover once more", p.c.Recover(), api.OK)
			p.unchanged("Recover of what has recovered", images, writes)
			p.goOn()
		})
	})
}

// differing is at how many stores there lies something else.
func differing(a, b []string) int {
	count := 0
	for i := range a {
		if a[i] != b[i] {
			count++
		}
	}
	return count
}

// unchanged checks that there lies at the stores what lay there, and that
// nothing was written.
func (p *pair) unchanged(behind string, images []string, writes int) {
	p.t.Helper()
	if got := p.c.Images(); !slices.Equal(got, images) {
		p.t.Fatalf("behind %s: Images = %q, want %q", behind, got, images)
	}
	if got := p.c.Writes(); got != writes {
		p.t.Fatalf("behind %s: Writes = %d, want %d", behind, got, writes)
	}
}

// refuses checks that each call answers ErrCrash, whatever it is given, but
// for those that do not.
func (p *pair) refuses() {
	p.t.Helper()
	images, writes := p.c.Images(), p.c.Writes()
	for _, name := range []string{"", "shared", "spoilt", "a", "nothing", "1234567890123"} {
		p.refusesChanges(name)
		if value, e := p.c.Get(name); value != "" || e != api.ErrCrash {
			p.t.Fatalf("Get while crashed = %q, %d", value, e)
		}
		for _, store := range numbers() {
			if made, e := p.c.Shard(store, name); made != "" || e != api.ErrCrash {
				p.t.Fatalf("Shard while crashed = %q, %d", made, e)
			}
			must(p.t, "Spoil while crashed", p.c.Spoil(store, name, 0, 1), api.ErrCrash)
			must(p.t, "Spoil of no byte while crashed", p.c.Spoil(store, name, -1, 1), api.ErrCrash)
		}
	}
	if objects := p.c.Objects(); len(objects) != 0 {
		p.t.Fatalf("Objects while crashed = %v", objects)
	}
	p.unchanged("calls while crashed", images, writes)
}

func (p *pair) refusesChanges(name string) {
	p.t.Helper()
	for _, plan := range []api.Plan{share(1, 1), share(0, 0), disperse(1)} {
		for _, value := range []string{"", "value", strings.Repeat("v", 61)} {
			must(p.t, "Put while crashed", p.c.Put(name, value, plan, ""), api.ErrCrash)
		}
	}
	must(p.t, "Delete while crashed", p.c.Delete(name), api.ErrCrash)
	must(p.t, "Refresh while crashed", p.c.Refresh(name, ""), api.ErrCrash)
	must(p.t, "Refresh while crashed", p.c.Refresh(name, longTape(1)), api.ErrCrash)
}

func TestEveryCallWhileCrashed(t *testing.T) {
	forEachChange(t, func(t *testing.T, s scene, c change) {
		s.forEachCrash(t, c, func(p *pair, before, after *model, crashed bool) {
			if !crashed {
				return
			}
			p.refuses()
			for i := range p.m.n {
				p.refusesToRecover(i)
			}
			for _, store := range []int{math.MinInt, -1, p.m.n, math.MaxInt} {
				must(t, "Up of no store while crashed", p.c.Up(store, false), api.ErrStore)
			}
			must(t, "Recover", p.c.Recover(), api.OK)
			p.adopt("Recover", before, after)
			p.goOn()
		})
	})
}

// refusesToRecover checks that a coffer stays crashed while a store is down.
func (p *pair) refusesToRecover(store int) {
	p.t.Helper()
	images, writes := p.c.Images(), p.c.Writes()
	must(p.t, "Up while crashed", p.c.Up(store, false), api.OK)
	must(p.t, "Recover while one is down", p.c.Recover(), api.ErrDown)
	must(p.t, "Delete while crashed and one is down", p.c.Delete("shared"), api.ErrCrash)
	must(p.t, "Recover while one is down", p.c.Recover(), api.ErrDown)
	p.unchanged("Recover while one is down", images, writes)
	must(p.t, "Up while crashed", p.c.Up(store, true), api.OK)
	must(p.t, "Delete while crashed", p.c.Delete("shared"), api.ErrCrash)
}

// A store that is up again while the coffer is crashed is so behind Recover.
func TestUpWhileCrashed(t *testing.T) {
	p := several(t, 3)
	p.c.CrashAt(0)
	must(t, "Delete", p.c.Delete("none"), api.ErrCrash)
	for i := range 3 {
		must(t, "Up", p.c.Up(i, false), api.OK)
	}
	for i := range 3 {
		must(t, "Recover while one is down", p.c.Recover(), api.ErrDown)
		must(t, "Up", p.c.Up(i, true), api.OK)
	}
	must(t, "Recover", p.c.Recover(), api.OK)
	p.adopt("Recover", p.m, behind(t, p.m, deleting("none")))
	must(t, "Put", p.put("new", "value", disperse(3), ""), api.OK)
	p.getAll()
}

func TestRecoverOfWhatHasNotCrashed(t *testing.T) {
	for n := 1; n <= api.MaxStores; n++ {
		p := several(t, n)
		images, writes := p.c.Images(), p.c.Writes()
		for i := range n {
			must(t, "Up", p.up(i, false), api.OK)
			must(t, "Recover while one is down", p.c.Recover(), api.ErrDown)
			p.same("Recover while one is down")
			p.unchanged("Recover while one is down", images, writes)
			must(t, "Up", p.up(i, true), api.OK)
			must(t, "Recover", p.c.Recover(), api.OK)
			p.same("Recover")
			p.unchanged("Recover", images, writes)
		}
		p.goOn()
	}
	p := open(t, 2, 3)
	must(t, "Recover of an empty coffer", p.c.Recover(), api.OK)
	p.goOn()
}

// writesOf is by how many writes a change is done.
func writesOf(t *testing.T, s scene, c change) int {
	t.Helper()
	p := s.build(t)
	before := p.c.Writes()
	must(t, c.what, p.do(c), api.OK)
	return p.c.Writes() - before
}

func TestCrashAtOfOtherNumbers(t *testing.T) {
	forEachChange(t, func(t *testing.T, s scene, c change) {
		count := writesOf(t, s, c)
		for _, n := range []int{math.MinInt, -2, -1, count, count + 1, math.MaxInt - 1, math.MaxInt} {
			p := s.build(t)
			p.c.CrashAt(n)
			must(t, c.what, p.do(c), api.OK)
			if n < 0 {
				p.goOn()
			}
		}
		for n := range count {
			p := s.build(t)
			p.c.CrashAt(n)
			must(t, c.what, c.coffer(p.c), api.ErrCrash)
		}
	})
}

// threePuts are done one after another, by writes that are counted through.
func threePuts() []change {
	return []change{
		putting("x", "value", share(2, 1), noise(5, 1)),
		putting("xx", "", disperse(3), ""),
		putting("y", "other", share(1, 3), ""),
	}
}

func TestCrashAtCountsThroughCalls(t *testing.T) {
	counted, ends := several(t, 3), []int{}
	start := counted.c.Writes()
	for _, c := range threePuts() {
		must(t, c.what, counted.do(c), api.OK)
		ends = append(ends, counted.c.Writes()-start)
	}
	for n := range ends[2] {
		p := several(t, 3)
		p.c.CrashAt(n)
		for i, c := range threePuts() {
			if n >= ends[i] {
				must(t, c.what, p.do(c), api.OK)
				p.idle()
				continue
			}
			must(t, c.what, c.coffer(p.c), api.ErrCrash)
			must(t, "Recover", p.c.Recover(), api.OK)
			p.adopt("Recover", p.m, behind(t, p.m, c))
			p.goOn()
			break
		}
	}
}

// idle calls what does not write, right and wrong.
func (p *pair) idle() {
	p.t.Helper()
	images, writes := p.c.Images(), p.c.Writes()
	p.getAll()
	p.get("nothing")
	p.shard(0, "shared")
	p.shard(9, "shared")
	p.spoil(0, "shared", 2, 2)
	p.spoil(0, "shared", 2, 2)
	p.spoil(0, "shared", 999, 2)
	p.up(0, false)
	p.put("new", "", share(1, 1), "")
	p.delete("shared")
	p.refresh("shared", noise(99, 1))
	must(p.t, "Recover while one is down", p.c.Recover(), api.ErrDown)
	p.up(0, true)
	p.put("", "", share(1, 1), "")
	p.put("shared", "", share(1, 1), "")
	p.put("new", "v", share(2, 2), "")
	p.delete("nothing")
	p.refresh("spoilt", "")
	p.refresh("dispersed", "")
	must(p.t, "Recover of what has not crashed", p.c.Recover(), api.OK)
	p.unchanged("calls that do not write", images, writes)
}

// What CrashAt was told stays until a write comes, whatever else is called.
func TestCrashAtAndCallsThatDoNotWrite(t *testing.T) {
	p := several(t, 3)
	p.c.CrashAt(0)
	p.idle()
	must(t, "Put", p.c.Put("new", "", share(1, 1), ""), api.ErrCrash)
	must(t, "Recover", p.c.Recover(), api.OK)
	p.adopt("Recover", p.m, behind(t, p.m, putting("new", "", share(1, 1), "")))
	p.goOn()
}

func TestCrashAtCalledAgain(t *testing.T) {
	count := writesOf(t, scene{build: func(t *testing.T) *pair { return several(t, 3) }}, threePuts()[0])
	for _, c := range []struct {
		told []int
		e    api.Errno
	}{
		{[]int{0, -1}, api.OK}, {[]int{0, count}, api.OK}, {[]int{count, 0}, api.ErrCrash}, {[]int{-1, 0}, api.ErrCrash},
		{[]int{0, 0}, api.ErrCrash}, {[]int{0, math.MaxInt}, api.OK}, {[]int{math.MaxInt, count - 1}, api.ErrCrash}, {[]int{0, 1, -1, math.MinInt}, api.OK},
	} {
		p := several(t, 3)
		for _, n := range c.told {
			p.c.CrashAt(n)
		}
		if must(t, "Put", threePuts()[0].coffer(p.c), c.e); c.e == api.OK {
			continue
		}
		must(t, "Recover", p.c.Recover(), api.OK)
		p.adopt("Recover", p.m, behind(t, p.m, threePuts()[0]))
		p.goOn()
	}
}

// What is told while crashed is taken back, whether Recover does writes or not.
func TestCrashAtWhileCrashed(t *testing.T) {
	forEachChange(t, func(t *testing.T, s scene, c change) {
		for _, told := range []int{0, 1, 7} {
			s.forEachCrash(t, c, func(p *pair, before, after *model, crashed bool) {
				if !crashed {
					return
				}
				p.c.CrashAt(told)
				p.refusesToRecover(0)
				must(t, "Recover", p.c.Recover(), api.OK)
				p.adopt("Recover", before, after)
				must(t, "Recover once more", p.c.Recover(), api.OK)
				p.goOn()
			})
		}
	})
}

// One crash comes of what CrashAt was told, and another only if it is called
// again.
func TestCrashAgain(t *testing.T) {
	forEachChange(t, func(t *testing.T, s scene, c change) {
		count := writesOf(t, s, c)
		for n := range count {
			p := s.build(t)
			for range 4 {
				after := p.m.clone()
				if c.model(after) != api.OK {
					break // It was finished.
				}
				before := p.m.clone()
				if !p.crashed(c, after, n) {
					t.Fatalf("%s does not crash behind %d writes once more", c.what, n)
				}
				must(t, "Recover", p.c.Recover(), api.OK)
				p.adopt("Recover", before, after)
			}
			p.goOn()
		}
	})
}

func TestWrites(t *testing.T) {
	p := open(t, 3, 4)
	if got := p.c.Writes(); got != 0 {
		t.Errorf("Writes of a coffer that was opened = %d", got)
	}
	p = several(t, 3)
	for _, c := range []change{
		putting("new", "value", disperse(3), ""), putting("none at all", "", share(1, 1), ""), refreshing("shared", noise(99, 1)), refreshing("none", ""),
		deleting("none"), deleting("new"), deleting("none at all"),
	} {
		before := p.c.Writes()
		must(t, c.what, p.do(c), api.OK)
		if got := p.c.Writes(); got <= before {
			t.Errorf("%s: Writes = %d, and %d ahead of it", c.what, got, before)
		}
		p.idle()
	}
}

func TestCrashExample(t *testing.T) {
	p := open(t, 3, 8)
	p.c.CrashAt(0)
	must(t, "Put", p.c.Put("k", "ab", disperse(2), ""), api.ErrCrash)
	if value, e := p.c.Get("k"); value != "" || e != api.ErrCrash {
		t.Errorf("Get = %q, %d", value, e)
	}
	must(t, "Recover", p.c.Recover(), api.OK)
	p.adopt("Recover", p.m, behind(t, p.m, putting("k", "ab", disperse(2), "")))
}
