package cutting

import (
	"strconv"

	"coffer/api"
	"coffer/fault"
	"coffer/field"
)

// Where the polynomials have the bytes: those of a group from 128 on, those of
// the tape from 192 on, those of the stores from 1 on. A value that is
// dispersed has its own bytes at the first stores.
const (
	groupStart = 128
	tapeStart  = 192
	storeStart = 1
)

// layout is how a value of one size is cut by one plan.
type layout struct {
	group  []field.Element
	tape   []field.Element
	groups int
}

// layoutFor answers the errors that Split and Join have in common.
func layoutFor(p api.Plan, n, size int) (layout, error) {
	if err := checkPlan(p, n); err != nil {
		return layout{}, err
	}
	if size < 0 || size > api.MaxValue {
		return layout{}, fault.AtCount(size, "bytes", fault.Big)
	}
	group, tape := known(p)
	groups := (size + len(group) - 1) / len(group)
	return layout{group: group, tape: tape, groups: groups}, nil
}

// known tells where a plan's polynomials are the bytes of their group, and
// where they are bytes of the tape.
func known(p api.Plan) (group, tape []field.Element) {
	if p.Mode == api.Disperse {
		return run(storeStart, p.T), nil
	}
	return run(groupStart, p.L), run(tapeStart, p.T-1)
}

func checkPlan(p api.Plan, n int) error {
	if n < 1 || n > api.MaxStores {
		return fault.AtCount(n, "stores", fault.Plan)
	}
	if !fits(p, n) {
		plan := "mode " + strconv.Itoa(p.Mode) + ", T " + strconv.Itoa(p.T) + ", L " + strconv.Itoa(p.L)
		return fault.At(plan, fault.Plan)
	}
	return nil
}

func fits(p api.Plan, n int) bool {
	if p.T < 1 || p.T > n {
		return false
	}
	switch p.Mode {
	case api.Share:
		// T + L might wrap round; n - T does not.
		return p.L >= 1 && p.L-1 <= n-p.T
	case api.Disperse:
		return p.L == 1
	}
	return false
}

func (l layout) threshold() int { return len(l.group) + len(l.tape) }

func (l layout) tapeNeed() int { return len(l.tape) * l.groups }

// run is count elements, one behind the other.
func run(start, count int) []field.Element {
	xs := make([]field.Element, count)
	for i := range xs {
		xs[i] = field.Element(start + i)
	}
	return xs
}
