package coffer_test

import (
	"math"
	"math/rand/v2"
	"slices"
	"strings"
	"testing"

	"coffer/api"
	"coffer/coffer"
)

// shown is all that a coffer tells of itself.
func shown(c *coffer.Coffer, n int) []string {
	var all []string
	for _, o := range c.Objects() {
		all = append(all, o.Name, string([]rune{rune(o.Plan.Mode), rune(o.Plan.T), rune(o.Plan.L), rune(o.Size), rune(o.Epoch)}))
		for i := range n {
			made, _ := c.Shard(i, o.Name)
			all = append(all, made)
		}
	}
	return all
}

// wrong hands images to Reopen that no coffer told, or may not have told. It
// must refuse them, or give a coffer of which P1 holds.
func wrong(t *testing.T, images []string, key uint64) {
	t.Helper()
	handed := slices.Clone(images)
	c, e := coffer.Reopen(handed, key)
	if !slices.Equal(handed, images) {
		t.Fatal("Reopen writes into what is handed in")
	}
	if c == nil && e == api.ErrImages {
		return
	}
	if c == nil || e != api.OK || len(images) < 1 || len(images) > api.MaxStores {
		t.Fatalf("Reopen of %q = %v, %d", images, c, e)
	}
	n := len(images)
	if got := len(c.Objects()); got > api.MaxObjects {
		t.Fatalf("Reopen of %q: %d objects", images, got)
	}
	was := shown(c, n)
	again, e := coffer.Reopen(c.Images(), key)
	if again == nil || e != api.OK || !slices.Equal(shown(again, n), was) {
		t.Fatalf("Reopen of %q, and of its images: %d", images, e)
	}
	again, e = coffer.Reopen(handed, key)
	if again == nil || e != api.OK || !slices.Equal(shown(again, n), was) {
		t.Fatalf("Reopen of %q once more: %d", images, e)
	}
	tried{t, c, n, key}.all()
}

// tried is a coffer of which nothing is known but that P1 must hold.
type tried struct {
	t   *testing.T
	c   *coffer.Coffer
	n   int
	key uint64
}

// all calls everything.
func (w tried) all() {
	w.t.Helper()
	for _, o := range w.c.Objects() {
		w.object(o.Name)
	}
	w.object("nothing")
	w.call(func() (string, api.Errno) { return "", w.c.Up(w.n, true) })
	w.call(func() (string, api.Errno) { return "", w.c.Up(w.n-1, false) })
	for _, o := range w.c.Objects() {
		w.object(o.Name)
	}
	w.call(func() (string, api.Errno) { return "", w.c.Up(w.n-1, true) })
	w.crash()
	for _, o := range w.c.Objects() {
		w.call(func() (string, api.Errno) { return "", w.c.Delete(o.Name) })
	}
	for i := range api.MaxObjects + 1 {
		w.call(func() (string, api.Errno) { return "", w.c.Put(string(rune('a'+i)), "", share(1, w.n), "") })
	}
	if got := len(w.c.Objects()); got > api.MaxObjects {
		w.t.Fatalf("%d objects", got)
	}
}

// object calls what is called with a name, but for Delete.
func (w tried) object(name string) {
	w.t.Helper()
	w.call(func() (string, api.Errno) { return w.c.Get(name) })
	w.call(func() (string, api.Errno) { return "", w.c.Refresh(name, longTape(1)) })
	w.call(func() (string, api.Errno) { return "", w.c.Put(name, "value", share(w.n, 1), longTape(2)) })
	for _, store := range []int{-1, 0, w.n - 1, w.n} {
		w.call(func() (string, api.Errno) { return w.c.Shard(store, name) })
		for _, at := range []int{-1, 0, 12, 1000} {
			w.call(func() (string, api.Errno) { return "", w.c.Spoil(store, name, at, 5) })
		}
	}
	w.call(func() (string, api.Errno) { return w.c.Get(name) })
}

// crash lets calls crash, and the coffer recover.
func (w tried) crash() {
	w.t.Helper()
	for n, o := range w.c.Objects() {
		was := shown(w.c, w.n)
		w.c.CrashAt(n)
		if e := w.c.Delete(o.Name); e == api.ErrCrash {
			w.call(func() (string, api.Errno) { return w.c.Get(o.Name) })
		}
		images := w.c.Images()
		must(w.t, "Recover", w.c.Recover(), api.OK)
		if again, e := coffer.Reopen(images, w.key); again == nil || e != api.OK || len(shown(again, w.n)) > len(was) {
			w.t.Fatalf("Reopen of what crashed = %v, %d", again, e)
		}
		w.c.CrashAt(-1)
	}
}

// call checks that with an error nothing else is told and nothing is changed.
func (w tried) call(do func() (string, api.Errno)) {
	w.t.Helper()
	objects, images, writes := w.c.Objects(), w.c.Images(), w.c.Writes()
	text, e := do()
	if e == api.OK {
		return
	}
	if text != "" || e < 0 || e > api.ErrImages {
		w.t.Fatalf("a call answers %q, %d", text, e)
	}
	if !slices.Equal(w.c.Objects(), objects) || !slices.Equal(w.c.Images(), images) || w.c.Writes() != writes {
		w.t.Fatalf("a call answers %d, and something is changed", e)
	}
}

func TestReopenOfNoneAndTooMany(t *testing.T) {
	told := several(t, 8).c.Images()
	for _, images := range [][]string{nil, {}, make([]string, 9), append(slices.Clone(told), ""), append(slices.Clone(told), told[0]), make([]string, 1000)} {
		if c, e := coffer.Reopen(images, 9); c != nil || e != api.ErrImages {
			t.Errorf("Reopen of %d images = %v, %d", len(images), c, e)
		}
	}
	for n := 1; n <= api.MaxStores; n++ {
		for _, image := range []string{"", "\x00", "\x01", "\xff", strings.Repeat("\x00", 99), strings.Repeat("\x01", 1<<16)} {
			wrong(t, slices.Repeat([]string{image}, n), 1)
		}
	}
}

// small has one object that can be refreshed and one that cannot.
func small(t *testing.T) *pair {
	t.Helper()
	p := open(t, 2, 3)
	must(t, "Put", p.put("s", "val", share(2, 1), "tap"), api.OK)
	must(t, "Put", p.put("d", "v", disperse(2), ""), api.OK)
	return p
}

// cutOff are images of coffers that were cut off in the middle, and of one that
// was not.
func cutOff(t *testing.T, build func(*testing.T) *pair, changes ...change) [][]string {
	t.Helper()
	all := [][]string{build(t).c.Images()}
	for _, c := range changes {
		scene{build: build}.forEachCrash(t, c, func(p *pair, before, after *model, crashed bool) {
			all = append(all, p.c.Images())
		})
	}
	return all
}

func smallCutOff(t *testing.T) [][]string {
	t.Helper()
	return cutOff(t, small, refreshing("s", "pat"), putting("e", "", share(1, 2), ""), deleting("s"))
}

// with is the images, of which one is another.
func with(images []string, store int, image string) []string {
	other := slices.Clone(images)
	other[store] = image
	return other
}

func TestReopenOfBytesTurned(t *testing.T) {
	for _, images := range smallCutOff(t) {
		for store, image := range images {
			for at := range len(image) {
				for _, turn := range []byte{1, 2, 255} {
					turned := []byte(image)
					turned[at] ^= turn
					wrong(t, with(images, store, string(turned)), 3)
				}
			}
		}
	}
}

func TestReopenOfBytesCutOffAndAdded(t *testing.T) {
	all := append(smallCutOff(t), several(t, 3).c.Images(), filled(t, 2).c.Images())
	for _, images := range all {
		for store, image := range images {
			for at := range len(image) + 1 {
				wrong(t, with(images, store, image[:at]), 3)
				wrong(t, with(images, store, image[at:]), 3)
				wrong(t, with(images, store, image[:at]+"\x00"+image[at:]), 3)
				wrong(t, with(images, store, image[:at]+"\x01"+image[at:]), 3)
				wrong(t, with(images, store, image[:at]+image), 3)
				wrong(t, with(images, store, image+image[at:]), 3)
			}
		}
	}
}

func TestReopenOfImagesOfOthers(t *testing.T) {
	all := append(smallCutOff(t), filled(t, 2).c.Images(), several(t, 2).c.Images(), several(t, 3).c.Images(), open(t, 2, 3).c.Images(), inEpoch(t, 5).c.Images())
	for _, one := range all {
		reversed := slices.Clone(one)
		slices.Reverse(reversed)
		wrong(t, reversed, 3)
		wrong(t, one[1:], 3)
		wrong(t, one[:len(one)-1], 3)
		wrong(t, append(slices.Clone(one), one[0]), 3)
		wrong(t, append(slices.Clone(one), ""), 3)
		wrong(t, slices.Repeat(one[:1], len(one)), 3)
		for _, other := range all {
			wrong(t, with(one, 0, other[0]), 3)
			wrong(t, with(one, 1, other[1]), 3)
			wrong(t, with(one, 0, other[0]+one[0]), 3)
			wrong(t, with(one, 0, other[1]), 3)
		}
	}
}

func TestReopenWithAnotherKey(t *testing.T) {
	all := append(smallCutOff(t), cutOff(t, func(t *testing.T) *pair { return several(t, 3) }, severalChanges(3)...)...)
	for _, images := range append(all, filled(t, 3).c.Images(), open(t, 3, 3).c.Images()) {
		for _, key := range []uint64{0, 2, 1 << 63, math.MaxUint64} {
			wrong(t, images, key)
		}
	}
}

// bent is images with some things about them turned into others, at random.
func bent(r *rand.Rand, images []string) []string {
	images = slices.Clone(images)
	for range 1 + r.IntN(4) {
		store := r.IntN(len(images))
		image := []byte(images[store])
		at := r.IntN(len(image) + 1)
		end := min(at+r.IntN(30), len(image))
		switch r.IntN(6) {
		case 0:
			image = slices.Delete(image, at, end)
		case 1:
			image = slices.Insert(image, at, image[:end]...)
		case 2:
			for i := at; i < end; i++ {
				image[i] = byte(r.IntN(14))
			}
		case 3:
			image = slices.Insert(image, at, byte(r.IntN(256)))
		case 4:
			other := images[r.IntN(len(images))]
			image = slices.Concat(image[:at], []byte(other[min(at, len(other)):]))
		default:
			if at < len(image) {
				image[at] = byte(r.IntN(14))
			}
		}
		images[store] = string(image)
		if r.IntN(3) == 0 { // The same at all stores, so that they agree.
			for i := range images {
				if at < min(len(image), len(images[i])) {
					other := []byte(images[i])
					other[at] = image[at]
					images[i] = string(other)
				}
			}
		}
	}
	return images
}

func TestReopenOfImagesBentAtRandom(t *testing.T) {
	all := append(smallCutOff(t), filled(t, 3).c.Images(), several(t, 1).c.Images(), several(t, 4).c.Images())
	r := rand.New(rand.NewPCG(1, 2))
	for range 10000 {
		wrong(t, bent(r, all[r.IntN(len(all))]), 3)
	}
}

func FuzzReopen(f *testing.F) {
	f.Add("", "", uint64(0))
	for writes := range 5 {
		c := coffer.Open(2, 3)
		c.Put("s", "val", share(2, 1), "tap")
		c.Put("d", "v", disperse(2), "")
		c.CrashAt(writes)
		c.Refresh("s", "pat")
		f.Add(c.Images()[0], c.Images()[1], uint64(3))
	}
	f.Fuzz(func(t *testing.T, one, two string, key uint64) {
		wrong(t, []string{one, two}, key)
		wrong(t, []string{one}, key)
	})
}
