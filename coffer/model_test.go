package coffer_test

import (
	"slices"
	"strings"

	"coffer/api"
)

// What a coffer answers is held against a model: objects with their shards as
// texts, in the plainest way that the document can be written down.

type keptObject struct {
	object api.Object
	shards []string
}

type model struct {
	n    int
	key  uint64
	down [api.MaxStores]bool
	kept map[string]keptObject
}

func newModel(n int, key uint64) *model {
	if n < 1 {
		n = 1
	}
	if n > api.MaxStores {
		n = api.MaxStores
	}
	return &model{n: n, key: key, kept: map[string]keptObject{}}
}

// clone is the same model, of which one can go on without the other.
func (m *model) clone() *model {
	other := *m
	other.kept = map[string]keptObject{}
	for name, k := range m.kept {
		other.kept[name] = keptObject{k.object, slices.Clone(k.shards)}
	}
	return &other
}

// tagged is a text with its tag behind it.
func tagged(ahead string, key uint64) string {
	tag := 14695981039346656037 ^ key
	for i := range len(ahead) {
		tag ^= uint64(ahead[i])
		tag *= 1099511628211
	}
	made := []byte(ahead)
	for shift := 56; shift >= 0; shift -= 8 {
		made = append(made, byte(tag>>shift))
	}
	return string(made)
}

func (m *model) head(o api.Object, store int) string {
	numbers := []int{o.Plan.Mode, o.Plan.T, o.Plan.L, m.n, store, o.Epoch / 256, o.Epoch % 256, o.Size / 256, o.Size % 256, len(o.Name)}
	var head []byte
	for _, number := range numbers {
		head = append(head, byte(number))
	}
	return string(head) + o.Name
}

// piece is what a shard has between its head and its tag, and whether it is
// good.
func (m *model) piece(name string, store int) (string, bool) {
	k := m.kept[name]
	head, made := m.head(k.object, store), k.shards[store]
	length := groupCount(k.object.Plan, k.object.Size)
	if len(made) != len(head)+length+8 || !strings.HasPrefix(made, head) {
		return "", false
	}
	ahead := made[:len(made)-8]
	return ahead[len(head):], tagged(ahead, m.key) == made
}

func (m *model) keep(o api.Object, pieces []string) {
	k := keptObject{object: o}
	for i, piece := range pieces {
		k.shards = append(k.shards, tagged(m.head(o, i)+piece, m.key))
	}
	m.kept[o.Name] = k
}

func (m *model) anyDown() bool { return slices.Contains(m.down[:], true) }

func (m *model) has(name string) bool {
	_, ok := m.kept[name]
	return ok
}

func (m *model) hasStore(store int) bool { return store >= 0 && store < m.n }

func (m *model) put(name, value string, p api.Plan, tape string) api.Errno {
	switch {
	case name == "" || len(name) > 12:
		return api.ErrName
	case !isPlan(p, m.n):
		return api.ErrPlan
	case len(value) > 60:
		return api.ErrBig
	case m.has(name):
		return api.ErrTwice
	case len(m.kept) == 10:
		return api.ErrFull
	case len(tape) < tapeNeed(p, len(value)):
		return api.ErrTape
	case m.anyDown():
		return api.ErrDown
	}
	m.keep(api.Object{Name: name, Plan: p, Size: len(value)}, referenceSplit(value, p, m.n, tape))
	return api.OK
}

func (m *model) get(name string) (string, api.Errno) {
	if !m.has(name) {
		return "", api.ErrNone
	}
	var pieces []api.Piece
	for i := range m.n {
		if bytes, good := m.piece(name, i); good && !m.down[i] {
			pieces = append(pieces, piece(i, bytes))
		}
	}
	o := m.kept[name].object
	if len(pieces) < threshold(o.Plan) {
		return "", api.ErrFew
	}
	return referenceJoin(pieces, o.Plan, o.Size), api.OK
}

func (m *model) delete(name string) api.Errno {
	if !m.has(name) {
		return api.ErrNone
	}
	if m.anyDown() {
		return api.ErrDown
	}
	delete(m.kept, name)
	return api.OK
}

func (m *model) refresh(name, tape string) api.Errno {
	o := m.kept[name].object
	switch {
	case !m.has(name):
		return api.ErrNone
	case o.Plan.Mode == api.Disperse:
		return api.ErrMode
	case o.Epoch == 100:
		return api.ErrFull
	case len(tape) < tapeNeed(o.Plan, o.Size):
		return api.ErrTape
	case m.anyDown():
		return api.ErrDown
	}
	pieces := referenceSplit(strings.Repeat("\x00", o.Size), o.Plan, m.n, tape)
	for i := range pieces {
		old, good := m.piece(name, i)
		if !good {
			return api.ErrBad
		}
		pieces[i] = added(old, pieces[i])
	}
	o.Epoch++
	m.keep(o, pieces)
	return api.OK
}

// added is the exclusive or of two texts that are just as long.
func added(a, b string) string {
	sum := []byte(a)
	for i := range sum {
		sum[i] ^= b[i]
	}
	return string(sum)
}

func (m *model) up(store int, up bool) api.Errno {
	if !m.hasStore(store) {
		return api.ErrStore
	}
	m.down[store] = !up
	return api.OK
}

func (m *model) spoil(store int, name string, at int, with byte) api.Errno {
	made, e := m.shard(store, name)
	if e != api.OK {
		return e
	}
	if at < 0 || at >= len(made) {
		return api.ErrPlace
	}
	spoilt := []byte(made)
	spoilt[at] ^= with
	m.kept[name].shards[store] = string(spoilt)
	return api.OK
}

func (m *model) shard(store int, name string) (string, api.Errno) {
	if !m.hasStore(store) {
		return "", api.ErrStore
	}
	if !m.has(name) {
		return "", api.ErrNone
	}
	return m.kept[name].shards[store], api.OK
}

func (m *model) objects() []api.Object {
	var objects []api.Object
	for _, k := range m.kept {
		objects = append(objects, k.object)
	}
	slices.SortFunc(objects, func(a, b api.Object) int { return slices.Compare([]byte(a.Name), []byte(b.Name)) })
	return objects
}
