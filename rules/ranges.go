package rules

import (
	"math"

	"warrant/source"
)

// Bounds are Lo to Hi, Lo <= Hi.
type Bounds struct {
	Lo, Hi int64
}

// Ranges are the rules of problem 6.
func Ranges(p source.Program) System[Env[Bounds]] {
	return environments[Bounds](p, ranges{})
}

type ranges struct{}

func all() Bounds { return Bounds{math.MinInt64, math.MaxInt64} }

func (ranges) constant(c int64) Bounds { return Bounds{c, c} }

func (ranges) input() Bounds { return all() }

func (ranges) compute(op source.Op, a, b Bounds) (Bounds, bool) {
	switch op {
	case source.Add:
		return around(sum(a.Lo, b.Lo), sum(a.Hi, b.Hi)), true
	case source.Sub:
		return minus(a, b), true
	case source.Mul:
		return around(product(a.Lo, b.Lo), product(a.Lo, b.Hi), product(a.Hi, b.Lo), product(a.Hi, b.Hi)), true
	}
	return quotient(a, b)
}

func minus(a, b Bounds) Bounds {
	return around(difference(a.Lo, b.Hi), difference(a.Hi, b.Lo))
}

// quotient is false for a division by just 0.
func quotient(a, b Bounds) (Bounds, bool) {
	if b.Lo != b.Hi {
		return all(), true
	}
	c := b.Lo
	switch {
	case c == 0:
		return Bounds{}, false
	case c > 0:
		return Bounds{a.Lo / c, a.Hi / c}, true
	case c == -1:
		return minus(Bounds{}, a), true
	}
	return Bounds{a.Hi / c, a.Lo / c}, true
}

func (ranges) assume(test source.Test, so bool, a, b Bounds) (Bounds, Bounds, bool) {
	switch test {
	case source.Less:
		if so {
			return less(a, b)
		}
		return swapped(atMost(b, a))
	case source.AtMost:
		if so {
			return atMost(a, b)
		}
		return swapped(less(b, a))
	case source.Equal:
		if so {
			return equal(a, b)
		}
		return unequal(a, b)
	}
	if so {
		return unequal(a, b)
	}
	return equal(a, b)
}

func swapped(b, a Bounds, ok bool) (Bounds, Bounds, bool) { return a, b, ok }

func less(a, b Bounds) (Bounds, Bounds, bool) {
	// There is nothing below the least number, and nothing above the greatest.
	if b.Hi == math.MinInt64 || a.Lo == math.MaxInt64 {
		return Bounds{}, Bounds{}, false
	}
	return kept(Bounds{a.Lo, min(a.Hi, b.Hi-1)}, Bounds{max(b.Lo, a.Lo+1), b.Hi})
}

func atMost(a, b Bounds) (Bounds, Bounds, bool) {
	return kept(Bounds{a.Lo, min(a.Hi, b.Hi)}, Bounds{max(b.Lo, a.Lo), b.Hi})
}

func equal(a, b Bounds) (Bounds, Bounds, bool) {
	both, ok := ranges{}.meet(a, b)
	return both, both, ok
}

func unequal(a, b Bounds) (Bounds, Bounds, bool) {
	return a, b, a != b || a.Lo != a.Hi
}

func kept(a, b Bounds) (Bounds, Bounds, bool) {
	return a, b, a.Lo <= a.Hi && b.Lo <= b.Hi
}

func (ranges) meet(a, b Bounds) (Bounds, bool) {
	both := Bounds{max(a.Lo, b.Lo), min(a.Hi, b.Hi)}
	return both, both.Lo <= both.Hi
}

func (ranges) join(a, b Bounds) Bounds {
	return Bounds{min(a.Lo, b.Lo), max(a.Hi, b.Hi)}
}

func (ranges) below(low, high Bounds) bool {
	return high.Lo <= low.Lo && low.Hi <= high.Hi
}
