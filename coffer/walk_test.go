package coffer_test

import (
	"math/rand/v2"
	"testing"

	"coffer/api"
)

// A walk calls whatever comes, right and wrong, with seeds that are always the
// same.

type walk struct {
	*pair
	*rand.Rand
}

func (w *walk) name() string {
	if w.IntN(20) == 0 {
		return []string{"", "1234567890123", "none"}[w.IntN(3)]
	}
	return append(tenNames(), "c", "ca")[w.IntN(12)]
}

// known is the name of an object that is there, if there is one.
func (w *walk) known() string {
	if objects := w.m.objects(); len(objects) > 0 && w.IntN(12) != 0 {
		return objects[w.IntN(len(objects))].Name
	}
	return w.name()
}

func (w *walk) plan() api.Plan {
	if w.IntN(20) == 0 {
		return api.Plan{Mode: w.IntN(4) - 1, T: w.IntN(10), L: w.IntN(10)}
	}
	all := plans(w.m.n)
	return all[w.IntN(len(all))]
}

func (w *walk) bytes(size int) string { return noise(size, w.Uint32()) }

// tape is enough, most often.
func (w *walk) tape(p api.Plan, size int) string {
	need := 0
	if isPlan(p, w.m.n) {
		need = tapeNeed(p, size)
	}
	return w.bytes(max(0, need+w.IntN(12)-1))
}

func (w *walk) store() int {
	if w.IntN(20) == 0 {
		return w.IntN(20) - 10
	}
	return w.IntN(w.m.n)
}

func (w *walk) step() {
	w.t.Helper()
	switch w.IntN(16) {
	case 0, 1, 2:
		plan, size := w.plan(), w.IntN(62)
		w.put(w.name(), w.bytes(size), plan, w.tape(plan, size))
	case 3:
		w.delete(w.known())
	case 4, 5:
		name := w.known()
		o := w.m.kept[name].object
		w.refresh(name, w.tape(o.Plan, o.Size))
	case 6:
		w.up(w.store(), false)
	case 7:
		for i := range w.m.n {
			w.up(i, true)
		}
	case 8:
		w.spoil(w.store(), w.known(), w.IntN(110)-1, byte(w.IntN(256)))
	case 9:
		w.mendOrForge()
	case 10, 11:
		w.crash()
	case 12:
		w.pair = reopen(w.t, w.c.Images(), w.m)
	default:
		w.get(w.known())
	}
}

// change is one that may be refused.
func (w *walk) change() change {
	name := w.known()
	o := w.m.kept[name].object
	switch w.IntN(3) {
	case 0:
		plan, size := w.plan(), w.IntN(62)
		return putting(w.name(), w.bytes(size), plan, w.tape(plan, size))
	case 1:
		return deleting(name)
	}
	return refreshing(name, w.tape(o.Plan, o.Size))
}

// crash lets a change crash, if it is not refused and does not come to an end
// first; what is cut off is gone on with in the same coffer or in another.
func (w *walk) crash() {
	w.t.Helper()
	c, after := w.change(), w.m.clone()
	writes := w.IntN(4 * w.m.n)
	if want := c.model(after); want != api.OK {
		w.c.CrashAt(writes)
		w.do(c)
		w.c.CrashAt(-1)
		return
	}
	if !w.crashed(c, after, writes) {
		return
	}
	if w.IntN(3) == 0 {
		must(w.t, "Up", w.c.Up(w.IntN(w.m.n), false), api.OK)
		must(w.t, "Recover while one is down", w.c.Recover(), api.ErrDown)
		w.pair = reopen(w.t, w.c.Images(), w.m, after)
		return
	}
	w.c.CrashAt(w.IntN(5))
	must(w.t, "Recover", w.c.Recover(), api.OK)
	w.adopt("Recover", w.m, after)
}

// mendOrForge makes the shards of an object good again, one of them, now and
// then, with another piece.
func (w *walk) mendOrForge() {
	name := w.known()
	if !w.m.has(name) {
		return
	}
	o := w.m.kept[name].object
	for i := range w.m.n {
		made := w.m.kept[name].shards[i]
		head := w.m.head(o, i)
		w.forge(i, name, tagged(head+made[len(head):len(made)-8], w.m.key))
	}
	if w.IntN(3) == 0 {
		w.forgePiece(w.IntN(w.m.n), name, w.bytes(groupCount(o.Plan, o.Size)))
	}
}

func TestWalks(t *testing.T) {
	for seed := range uint64(200) {
		r := rand.New(rand.NewPCG(seed, 1))
		w := &walk{pair: open(t, int(seed%8)+1, r.Uint64()), Rand: r}
		for range 150 {
			w.step()
		}
		w.getAll()
		if t.Failed() {
			t.Fatalf("in the walk %d", seed)
		}
	}
}
