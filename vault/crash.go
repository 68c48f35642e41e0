package vault

import "coffer/fault"

// pen does the writes, one after another. One that is new does not crash.
type pen struct {
	done    int
	crashes bool // whether a write is to crash
	ahead   int  // how many are done ahead of that
	crashed bool
}

// next counts a write, or answers fault.Crash if that one crashes.
func (p *pen) next() error {
	if p.crashes && p.ahead == 0 {
		p.crashes, p.crashed = false, true
		return fault.Crash
	}
	p.ahead--
	p.done++
	return nil
}

// check answers fault.Crash while the pen is crashed.
func (p *pen) check() error {
	if p.crashed {
		return fault.Crash
	}
	return nil
}

// Writes tells how many writes to stores were done.
func (v *Vault) Writes() int { return v.pen.done }

// CrashAt lets the write behind n more crash; none, if n is below 0.
func (v *Vault) CrashAt(n int) {
	v.pen.crashes, v.pen.ahead = n >= 0, n
}

// Recover finishes or takes back the call that crashed, if one did.
func (v *Vault) Recover() error {
	if err := v.allUp(); err != nil {
		return fault.At("recover", err)
	}
	if v.pen.check() == nil {
		return nil
	}
	v.pen = pen{done: v.pen.done}
	return fault.At("recover", v.settle())
}
