package coffer_test

import (
	"testing"

	"coffer/api"
)

func TestAnswersAreNewMemory(t *testing.T) {
	p := wanting(t, 5)
	for range 2 {
		objects := p.c.Objects()
		for i := range objects[:cap(objects)] {
			objects[:cap(objects)][i] = api.Object{Name: "written", Size: -1}
		}
		p.same("an answer of Objects was written into")
		p.getAll()
	}
	first, second := p.c.Objects(), p.c.Objects()
	first[0].Name = "written"
	first = append(first[:1], api.Object{Name: "written"})
	if second[0].Name != "eman" || second[1].Name != "name" || first[1].Name != "written" {
		t.Errorf("two answers of Objects share room: %v, %v", first, second)
	}
	before, _ := p.c.Shard(1, "name")
	was := p.m.kept["name"].shards[1]
	p.spoil(1, "name", 0, 255)
	if before != was {
		t.Errorf("an answer of Shard is changed by Spoil: %q, want %q", before, was)
	}
}

func TestCoffersAreNothingToEachOther(t *testing.T) {
	one, two, other := open(t, 3, 5), open(t, 3, 5), open(t, 2, 6)
	same := func() {
		t.Helper()
		for _, p := range []*pair{one, two, other} {
			p.same("a call of another coffer")
			p.getAll()
		}
	}
	for i, p := range []*pair{one, two, other} {
		must(t, "Put", p.put("name", noise(7, uint32(i)), share(2, 1), noise(7, 1)), api.OK)
		same()
	}
	must(t, "Refresh", one.refresh("name", noise(7, 9)), api.OK)
	same()
	one.up(0, false)
	two.spoil(2, "name", 4, 4)
	same()
	must(t, "Put", two.put("more", "", disperse(1), ""), api.OK)
	same()
	must(t, "Delete", other.delete("name"), api.OK)
	same()
	must(t, "Delete", two.delete("name"), api.OK)
	one.up(0, true)
	same()
}
