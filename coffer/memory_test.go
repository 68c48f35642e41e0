package coffer_test

import (
	"slices"
	"testing"

	"coffer/api"
)

func TestAnswersAreNewMemory(t *testing.T) {
	p := wanting(t, 5)
	for range 2 {
		objects := p.c.Objects()
		for i := range objects[:cap(objects)] {
			objects[:cap(objects)][i] = api.Object{Name: "written", Size: -1}
		}
		p.same("an answer of Objects was written into")
		p.getAll()
	}
	first, second := p.c.Objects(), p.c.Objects()
	first[0].Name = "written"
	first = append(first[:1], api.Object{Name: "written"})
	if second[0].Name != "eman" || second[1].Name != "name" || first[1].Name != "written" {
		t.Errorf("two answers of Objects share room: %v, %v", first, second)
	}
	before, _ := p.c.Shard(1, "name")
	was := p.m.kept["name"].shards[1]
	p.spoil(1, "name", 0, 255)
	if before != was {
		t.Errorf("an answer of Shard is changed by Spoil: %q, want %q", before, was)
	}
}

func TestImagesAreNewMemory(t *testing.T) {
	p := wanting(t, 5)
	images := p.c.Images()
	kept := slices.Clone(images)
	for i := range images[:cap(images)] {
		images[:cap(images)][i] = "written"
	}
	p.same("an answer of Images was written into")
	if got := p.c.Images(); !slices.Equal(got, kept) {
		t.Errorf("Images = %q, want %q", got, kept)
	}
	again := p.c.Images()
	was := slices.Clone(again)
	p.spoil(1, "name", 3, 255)
	must(t, "Refresh", p.refresh("eman", noise(3, 2)), api.OK)
	must(t, "Delete", p.delete("name"), api.OK)
	if !slices.Equal(again, was) {
		t.Error("an answer of Images is changed by what comes behind it")
	}
}

// What is handed to Reopen stands in a list with spare room behind it.
func TestReopenLeavesWhatIsHandedIn(t *testing.T) {
	p := wanting(t, 5)
	room := append(p.c.Images(), "spare", "room")
	kept := slices.Clone(room)
	again := reopen(t, room[:3], p.m)
	if !slices.Equal(room, kept) {
		t.Errorf("Reopen made of what was handed in %q", room)
	}
	for i := range room {
		room[i] = "written"
	}
	again.same("what was handed to Reopen was written into")
	again.goOn()
	p.same("calls of a coffer that was reopened")
	p.goOn()
}

// A crash of one coffer is none of another, and what CrashAt was told neither.
func TestCrashesAreNothingToOthers(t *testing.T) {
	one, two := wanting(t, 5), wanting(t, 5)
	other := reopen(t, one.c.Images(), one.m)
	one.c.CrashAt(1)
	for _, p := range []*pair{two, other} {
		must(t, "Put", p.put("new", "value", disperse(3), ""), api.OK)
	}
	writes := two.c.Writes()
	must(t, "Put", one.c.Put("new", "value", disperse(3), ""), api.ErrCrash)
	half := reopen(t, one.c.Images(), one.m, behind(t, one.m, putting("new", "value", disperse(3), "")))
	half.up(1, false)
	for _, p := range []*pair{two, other} {
		p.same("the crash of another")
		must(t, "Recover", p.c.Recover(), api.OK)
		must(t, "Refresh", p.refresh("name", noise(3, 2)), api.OK)
		must(t, "Delete", p.delete("eman"), api.OK)
	}
	if got := two.c.Writes(); got <= writes {
		t.Errorf("Writes = %d, and %d ahead of calls that write", got, writes)
	}
	one.refuses()
	must(t, "Recover", one.c.Recover(), api.OK)
	one.adopt("Recover", one.m, behind(t, one.m, putting("new", "value", disperse(3), "")))
	for _, p := range []*pair{one, two, other, half} {
		p.goOn()
	}
}

func TestCoffersAreNothingToEachOther(t *testing.T) {
	one, two, other := open(t, 3, 5), open(t, 3, 5), open(t, 2, 6)
	same := func() {
		t.Helper()
		for _, p := range []*pair{one, two, other} {
			p.same("a call of another coffer")
			p.getAll()
		}
	}
	for i, p := range []*pair{one, two, other} {
		must(t, "Put", p.put("name", noise(7, uint32(i)), share(2, 1), noise(7, 1)), api.OK)
		same()
	}
	must(t, "Refresh", one.refresh("name", noise(7, 9)), api.OK)
	same()
	one.up(0, false)
	two.spoil(2, "name", 4, 4)
	same()
	must(t, "Put", two.put("more", "", disperse(1), ""), api.OK)
	same()
	must(t, "Delete", other.delete("name"), api.OK)
	same()
	must(t, "Delete", two.delete("name"), api.OK)
	one.up(0, true)
	same()
}
