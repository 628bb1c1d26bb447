package rules

import "warrant/source"

// Constant is the constant C, or any.
type Constant struct {
	Any bool
	C   int64
}

// Constants are the rules of problem 5.
func Constants(p source.Program) System[Env[Constant]] {
	return environments[Constant](p, constants{})
}

type constants struct{}

func (constants) constant(c int64) Constant { return Constant{C: c} }

func (constants) input() Constant { return Constant{Any: true} }

func (constants) compute(op source.Op, a, b Constant) (Constant, bool) {
	// A division by 0 traps whatever is divided.
	if op == source.Div && b == (Constant{}) {
		return Constant{}, false
	}
	if a.Any || b.Any {
		return Constant{Any: true}, true
	}
	c, ok := op.Apply(a.C, b.C)
	return Constant{C: c}, ok
}

func (constants) assume(test source.Test, so bool, a, b Constant) (Constant, Constant, bool) {
	taken := a.Any || b.Any || test.Holds(a.C, b.C) == so
	return a, b, taken
}

// meet has nothing to do: assume leaves values as they are.
func (constants) meet(a, _ Constant) (Constant, bool) { return a, true }

func (constants) join(a, b Constant) Constant {
	if a == b {
		return a
	}
	return Constant{Any: true}
}

func (constants) below(low, high Constant) bool { return low == high || high.Any }
