package vault

import (
	"errors"
	"slices"

	"coffer/api"
	"coffer/fault"
	"coffer/store"
)

// settle finishes or takes back what was cut off in the middle. It goes by
// what lies at the stores alone, as that is all that comes to Reopen.
func (v *Vault) settle() error {
	name, c, err := v.cutOff()
	if err != nil {
		return err
	}
	return v.write(c, v.everywhere(api.Object{Name: name}))
}

// cutOff finds the object that a call was cut off in, and what settles it. As
// one call at most is cut off, two such objects are an error.
func (v *Vault) cutOff() (string, call, error) {
	found, settles := "", leave
	for _, name := range v.names() {
		c, err := v.settling(name)
		if err != nil {
			return "", leave, fault.At(name, err)
		}
		if c != leave && settles != leave {
			return "", leave, fault.At(found+" and "+name, fault.Bad)
		}
		if c != leave {
			found, settles = name, c
		}
	}
	return found, settles, nil
}

// settling is what must be done to an object so that all stores have the same
// of it. One that a store does not have was not put wholly, or is deleted in
// part: either way it goes. New shards take the place of the old only if all
// stores have theirs.
func (v *Vault) settling(name string) (call, error) {
	var now, latest []api.Object
	for _, s := range v.stores {
		r, err := s.Record(name)
		if errors.Is(err, fault.None) {
			return remove, nil
		}
		now, latest = append(now, r.Object), append(latest, r.Latest())
	}
	switch {
	case same(latest) && slices.Equal(now, latest):
		return leave, nil
	case same(latest):
		return finish, nil
	case same(now):
		return takeBack, nil
	}
	return leave, fault.Bad
}

func same(objects []api.Object) bool {
	return len(slices.Compact(slices.Clone(objects))) == 1
}

// names is the names of all objects of which a store has something.
func (v *Vault) names() []string {
	var names []string
	for _, s := range v.stores {
		for _, r := range s.Records() {
			names = append(names, r.Object.Name)
		}
	}
	slices.Sort(names)
	return slices.Compact(names)
}

// everywhere is, for each store, a record that says which object is meant.
func (v *Vault) everywhere(object api.Object) []store.Record {
	return slices.Repeat([]store.Record{{Object: object}}, len(v.stores))
}
