package engine

import "callbox/api"

// noArm stands in the place of an entry, where an OpUnion has none.
const noArm = -1

// core is what both ways of running a code have: its operations, the fuel that is left, and whatever keeps what is wrong first.
type core struct {
	ops   []api.Op
	fuel  int
	fail  func(api.Errno) // what was wrong ahead of it stays
	wrong func() bool     // is anything, up to now?
}

func newCore(c api.Code, fuel int, fail func(api.Errno), wrong func() bool) core {
	return core{ops: c.Ops, fuel: max(fuel, 0), fail: fail, wrong: wrong}
}

// reach: what stands at a depth is begun.
func (c *core) reach(depth int) {
	if depth > api.MaxDeep {
		c.fail(api.ErrEngineDeep)
	}
}

// begin pays for an operation, and tells whether it is done. Once something is wrong, none is.
func (c *core) begin() bool {
	if c.fuel == 0 {
		c.fail(api.ErrEngineFuel)
	}
	if c.wrong() {
		return false
	}
	c.fuel--
	return true
}

// endOf is the place of the OpEnd of an entry.
func (c *core) endOf(entry int) int {
	op := c.ops[entry]
	if op.Code == api.OpStruct {
		return entry + op.A + 1
	}
	return entry + 1
}

// kindAt is the Kind of the values of the operation at a place. Their numbers run side by side, but for a union's, as OpCall, which has no kind of its own, stands ahead of it.
func (c *core) kindAt(at int) int {
	code := c.ops[at].Code
	if code == api.OpUnion {
		return api.Union
	}
	return code - api.OpVoid
}

// armOf is the entry of the arm that an OpUnion has for a number; noArm, if it has none.
func armOf(op api.Op, n int) int {
	for i := 0; i < len(op.T); i += 2 {
		if op.T[i] == n {
			return op.T[i+1]
		}
	}
	return op.A
}
