package warrant

import (
	"fmt"
	"math"
	"testing"

	"warrant/api"
)

const (
	least64    = math.MinInt64
	greatest64 = math.MaxInt64
)

func TestConstantsOfOperations(t *testing.T) {
	for _, c := range []struct {
		a, op, b string
		want     int64
	}{
		{"2", "+", "3", 5}, {"2", "-", "3", -1}, {"-2", "*", "3", -6}, {"-7", "/", "2", -3}, {"7", "/", "-2", -3},
		{"9223372036854775807", "+", "1", least64}, {"-9223372036854775808", "-", "1", greatest64}, {"9223372036854775807", "*", "2", -2}, {"4611686018427387904", "*", "2", least64}, {"4611686018427387904", "*", "4", 0},
		{"-9223372036854775808", "/", "-1", least64}, {"-9223372036854775808", "*", "-1", least64}, {"-9223372036854775808", "/", "1", least64}, {"0", "/", "5", 0}, {"5", "/", "-1", -5},
	} {
		a, b := constantVal(number(t, c.a)), constantVal(number(t, c.b))
		zero, want := constantVal(0), constantVal(c.want)
		p := "z = " + c.a + " " + c.op + " " + c.b + "\nreturn"
		takesBoth(t, p, 5, envNode(0, zero), envNode(1, want))
		q := "x = " + c.a + "\ny = " + c.b + "\nz = x " + c.op + " y\nreturn"
		takesBoth(t, q, 5, envNode(0, zero, zero, zero), envNode(1, a, zero, zero), envNode(2, a, b, zero), envNode(3, a, b, want))
		for _, wrong := range []api.Val{constantVal(c.want + 1), constantVal(c.want - 1)} {
			refusesBoth(t, p, api.ErrSound, 5, envNode(0, zero), envNode(1, wrong))
			refusesBoth(t, q, api.ErrSound, 5, envNode(0, zero, zero, zero), envNode(1, a, zero, zero), envNode(2, a, b, zero), envNode(3, a, b, wrong))
		}
		refusesBoth(t, p, api.ErrSound, 5, envNode(0, zero), api.Node{})
		leastOnly(t, p, 5, envNode(0, zero), envNode(1, anyVal()))
	}
}

func number(t *testing.T, word string) int64 {
	t.Helper()
	n := int64(0)
	if _, err := fmt.Sscan(word, &n); err != nil {
		t.Fatal(err)
	}
	return n
}

func TestConstantsThatAreAny(t *testing.T) {
	zero := constantVal(0)
	// What comes of any is any, even if no run could tell it from a constant.
	for _, s := range []string{"x + 1", "1 - x", "x * 0", "0 * x", "x - x", "x / x", "0 / x", "x / 1", "x"} {
		p := "x = input\ny = " + s + "\nreturn"
		takesBoth(t, p, 5, envNode(0, zero, zero), envNode(1, anyVal(), zero), envNode(2, anyVal(), anyVal()))
		refusesBoth(t, p, api.ErrSound, 5, envNode(0, zero, zero), envNode(1, anyVal(), zero), envNode(2, anyVal(), zero))
		refusesBoth(t, p, api.ErrSound, 5, envNode(0, zero, zero), envNode(1, anyVal(), zero), api.Node{})
	}
	// Division by the constant 0, whatever is divided, and by a variable that is it.
	for _, s := range []string{"x / 0", "1 / 0", "0 / 0", "x / z", "5 / z"} {
		p := "x = input\ny = " + s + "\noutput z\nreturn"
		takesBoth(t, p, 5, envNode(0, zero, zero, zero), envNode(1, anyVal(), zero, zero), api.Node{}, api.Node{})
		leastOnly(t, p, 5, envNode(0, zero, zero, zero), envNode(1, anyVal(), zero, zero), envNode(2, anyVal(), anyVal(), zero), envNode(3, anyVal(), anyVal(), zero))
	}
}

func TestConstantsOfIfs(t *testing.T) {
	zero := constantVal(0)
	for _, c := range []struct {
		test string
		so   bool
	}{
		{"1 < 2", true}, {"2 < 2", false}, {"2 <= 2", true}, {"3 <= 2", false}, {"2 == 2", true}, {"1 == 2", false}, {"1 != 2", true}, {"2 != 2", false},
		{"x < 1", true}, {"x < x", false}, {"x <= x", true}, {"x == x", true}, {"x != x", false}, {"0 < x", false}, {"-9223372036854775808 < 9223372036854775807", true},
	} {
		p := "output x\nif " + c.test + " goto l\nreturn\nl: return"
		nodes := []api.Node{envNode(0, zero), envNode(1, zero), envNode(2, zero), envNode(2, zero)}
		leastOnly(t, p, 5, nodes...)
		taken, other := 2, 3
		if c.so {
			taken, other = 3, 2
		}
		nodes[other] = api.Node{}
		takesBoth(t, p, 5, nodes...)
		nodes[taken], nodes[other] = nodes[other], nodes[taken]
		refusesBoth(t, p, api.ErrSound, 5, nodes...)
	}
	// Of any both edges are taken, and leave it any.
	for _, test := range []string{"x < 1", "x == 1", "x < x", "x != x", "1 == x", "x == y", "y == x"} {
		p := "x = input\nif " + test + " goto l\ny = 0\nreturn\nl: return"
		e := func(rank int) api.Node { return envNode(rank, anyVal(), zero) }
		takesBoth(t, p, 5, envNode(0, zero, zero), e(1), e(2), e(3), e(2))
		refusesBoth(t, p, api.ErrSound, 5, envNode(0, zero, zero), e(1), e(2), e(3), api.Node{})
		refusesBoth(t, p, api.ErrSound, 5, envNode(0, zero, zero), e(1), api.Node{}, api.Node{}, e(2))
		refusesBoth(t, p, api.ErrSound, 5, envNode(0, zero, zero), e(1), e(2), e(3), envNode(2, constantVal(1), zero))
	}
}

// Ranks of nodes, and of values that were constants at first.
func TestRanksOfConstants(t *testing.T) {
	zero := constantVal(0)
	// 0 x = 0, 1 l: x = x + 1, 2 if x < y goto 1, 3 return: x at node 1 is 0, then any.
	p := "x = 0\nl: x = x + 1\nif x < y goto l\nreturn"
	takesBoth(t, p, 5, envNode(0, zero, zero), envNode(1, zero, zero), envNode(2, constantVal(1), zero), envNode(3, constantVal(1), zero))
	q := "y = input\nl: x = x + 1\nif x < y goto l\nreturn"
	e := func(rank int, x api.Val) api.Node { return envNode(rank, anyVal(), x) }
	good := []api.Node{envNode(0, zero, zero), e(1, earlyVal(0, 3)), e(2, earlyVal(1, 4)), e(3, earlyVal(1, 5))}
	takesBoth(t, q, 5, good...)
	// y is any at node 1 at once, so that any number may stand as its first, if node 2 comes later still.
	for _, first := range []int64{0, 77, least64} {
		node := envNode(1, earlyVal(first, 2), earlyVal(0, 4))
		takesBoth(t, q, 5, good[0], node, e(3, earlyVal(1, 5)), e(4, earlyVal(1, 6)))
		leastOnly(t, q, 5, good[0], node, e(2, earlyVal(1, 5)), e(4, earlyVal(1, 6)))
	}
	for why, change := range map[string]func(l []api.Node){
		"a node's rank that is its own source's":     func(l []api.Node) { l[1] = e(0, earlyVal(0, 3)) },
		"an early rank by one too low":               func(l []api.Node) { l[1] = e(1, earlyVal(0, 2)) },
		"a first value that never was":               func(l []api.Node) { l[1] = e(1, earlyVal(1, 3)) },
		"not early":                                  func(l []api.Node) { l[1] = e(1, anyVal()) },
		"a later early rank by one too low":          func(l []api.Node) { l[3] = e(3, earlyVal(1, 4)) },
		"a later first value that never was":         func(l []api.Node) { l[2] = e(2, earlyVal(0, 4)) },
		"node 0 early, though nothing comes back":    func(l []api.Node) { l[0] = envNode(0, zero, earlyVal(0, 100000)) },
		"a value any that only a later rank makes":   func(l []api.Node) { l[3] = e(3, anyVal()) },
		"a rank of a node above those it rests upon": func(l []api.Node) { l[2] = e(100000, anyVal()) },
	} {
		l := append([]api.Node(nil), good...)
		change(l)
		if text := textOf(t, certOf(5, 1, l...)); compareCheck(t, q, text) != api.ErrLeast {
			t.Errorf("P6: %s", why)
		}
	}
	// Ranks may leave gaps, and be as great as they may.
	takesBoth(t, q, 5, envNode(7, zero, zero), e(90, earlyVal(0, 400)), e(91, earlyVal(1, 99999)), e(399, earlyVal(1, 100000)))
	// A ring that upholds itself is not reached.
	r := "return\nl: output x\ngoto l"
	takesBoth(t, r, 5, envNode(0, zero), api.Node{}, api.Node{})
	leastOnly(t, r, 5, envNode(0, zero), envNode(2, zero), envNode(1, zero))
	leastOnly(t, r, 5, envNode(0, zero), envNode(1, anyVal()), envNode(2, anyVal()))
}

// bounded is a program that keeps x and y within bounds ahead of node 6, and what ranges are up to there.
func bounded(x, y api.Val) (string, []api.Node) {
	head := fmt.Sprintf("x = input\nif x < %d goto r\nif %d < x goto r\ny = input\nif y < %d goto r\nif %d < y goto r\n", x.Lo, x.Hi, y.Lo, y.Hi)
	all, zero := rangeVal(least64, greatest64), rangeVal(0, 0)
	return head, []api.Node{envNode(0, zero, zero), envNode(0, all, zero), envNode(0, rangeVal(x.Lo, greatest64), zero), envNode(0, x, zero), envNode(0, x, all), envNode(0, x, rangeVal(y.Lo, greatest64)), envNode(0, x, y)}
}

// exactly: just this at a node is taken, and nothing less.
func exactly(t *testing.T, program string, nodes []api.Node, at int) {
	t.Helper()
	takes(t, program, certOf(6, 2, nodes...))
	is := nodes[at]
	defer func() { nodes[at] = is }()
	if !is.Reached {
		return
	}
	nodes[at] = api.Node{}
	refuses(t, program, api.ErrSound, certOf(6, 2, nodes...))
	for i, v := range is.Vals {
		for _, w := range []api.Val{rangeVal(v.Lo+1, v.Hi), rangeVal(v.Lo, v.Hi-1)} {
			if v.Lo < v.Hi {
				nodes[at] = envNode(0, append([]api.Val(nil), is.Vals...)...)
				nodes[at].Vals[i] = w
				refuses(t, program, api.ErrSound, certOf(6, 2, nodes...))
			}
		}
	}
}

func TestRangesOfOperations(t *testing.T) {
	all := rangeVal(least64, greatest64)
	const half, root = 1 << 62, 1 << 32
	for _, c := range []struct {
		x, y api.Val
		s    string
		want api.Val
		none bool
	}{
		{rangeVal(1, 3), rangeVal(-5, 20), "x + y", rangeVal(-4, 23), false}, {rangeVal(1, 3), rangeVal(-5, 20), "x - y", rangeVal(-19, 8), false}, {rangeVal(1, 3), rangeVal(-5, 20), "y - x", rangeVal(-8, 19), false}, {rangeVal(1, 3), rangeVal(-5, 20), "x * y", rangeVal(-15, 60), false}, {rangeVal(-3, -1), rangeVal(-5, 20), "x * y", rangeVal(-60, 15), false}, {rangeVal(-3, 2), rangeVal(-5, 4), "x * y", rangeVal(-12, 15), false},
		{rangeVal(1, 3), rangeVal(-5, 20), "x", rangeVal(1, 3), false}, {rangeVal(1, 3), rangeVal(-5, 20), "7", rangeVal(7, 7), false}, {rangeVal(1, 3), rangeVal(-5, 20), "input", all, false}, {rangeVal(1, 3), rangeVal(-5, 20), "2 + 3", rangeVal(5, 5), false},
		// Just fits, and just does not.
		{rangeVal(0, greatest64-1), rangeVal(0, 1), "x + y", rangeVal(0, greatest64), false}, {rangeVal(0, greatest64-1), rangeVal(0, 2), "x + y", all, false}, {rangeVal(least64+1, 0), rangeVal(-1, 0), "x + y", rangeVal(least64, 0), false}, {rangeVal(least64+1, 0), rangeVal(-2, 0), "x + y", all, false},
		{rangeVal(0, greatest64), rangeVal(0, 1), "y - x", rangeVal(-greatest64, 1), false}, {rangeVal(least64, -1), rangeVal(-1, -1), "y - x", rangeVal(0, greatest64), false}, {rangeVal(least64, -1), rangeVal(-1, 0), "y - x", all, false}, {rangeVal(-2, 0), rangeVal(0, greatest64), "x - y", all, false}, {rangeVal(-1, 0), rangeVal(0, greatest64), "x - y", rangeVal(least64, 0), false},
		{rangeVal(0, 2), rangeVal(0, half-1), "x * y", rangeVal(0, greatest64-1), false}, {rangeVal(0, 2), rangeVal(0, half), "x * y", all, false}, {rangeVal(0, 2), rangeVal(-half, 0), "x * y", rangeVal(least64, 0), false}, {rangeVal(0, 2), rangeVal(-half-1, 0), "x * y", all, false}, {rangeVal(-2, 2), rangeVal(-half, 0), "x * y", all, false},
		{rangeVal(-1, -1), rangeVal(least64, 0), "x * y", all, false}, {rangeVal(-1, -1), rangeVal(least64, 0), "y * x", all, false}, {rangeVal(-1, -1), rangeVal(least64+1, 0), "y * x", rangeVal(0, greatest64), false}, {rangeVal(root, root), rangeVal(root, root), "y * x", all, false}, {rangeVal(0, 0), all, "y * x", rangeVal(0, 0), false}, {rangeVal(1, 1), all, "y * x", all, false}, {all, all, "x * y", all, false},
		// Both operands are one variable: no more is known than of two.
		{rangeVal(-3, 4), rangeVal(0, 0), "x - x", rangeVal(-7, 7), false}, {rangeVal(-3, 4), rangeVal(0, 0), "x * x", rangeVal(-12, 16), false}, {rangeVal(-3, 4), rangeVal(0, 0), "x + x", rangeVal(-6, 8), false}, {rangeVal(-3, 4), rangeVal(0, 0), "x / x", all, false}, {rangeVal(4, 4), rangeVal(0, 0), "x / x", rangeVal(1, 1), false},
		// Divisions.
		{rangeVal(-7, 9), rangeVal(2, 2), "x / y", rangeVal(-3, 4), false}, {rangeVal(-7, 9), rangeVal(1, 1), "x / y", rangeVal(-7, 9), false}, {rangeVal(-7, 9), rangeVal(-2, -2), "x / y", rangeVal(-4, 3), false}, {rangeVal(-7, 9), rangeVal(-1, -1), "x / y", rangeVal(-9, 7), false}, {rangeVal(least64, 9), rangeVal(-1, -1), "x / y", all, false}, {rangeVal(least64+1, 9), rangeVal(-1, -1), "x / y", rangeVal(-9, greatest64), false}, {rangeVal(least64, least64), rangeVal(-1, -1), "x / y", all, false},
		{rangeVal(least64, greatest64), rangeVal(-2, -2), "x / y", rangeVal(-(half - 1), half), false}, {all, rangeVal(least64, least64), "x / y", rangeVal(0, 1), false}, {all, rangeVal(greatest64, greatest64), "x / y", rangeVal(-1, 1), false}, {rangeVal(-7, 9), rangeVal(2, 3), "x / y", all, false}, {rangeVal(0, 0), rangeVal(1, 2), "x / y", all, false}, {rangeVal(-7, 9), rangeVal(-1, 0), "x / y", all, false}, {rangeVal(-7, 9), rangeVal(0, 0), "x / 3", rangeVal(-2, 3), false}, {rangeVal(-7, 9), rangeVal(0, 0), "9 / 3", rangeVal(3, 3), false},
		{rangeVal(-7, 9), rangeVal(0, 0), "x / y", all, true}, {rangeVal(-7, 9), rangeVal(0, 0), "x / 0", all, true}, {rangeVal(0, 0), rangeVal(0, 0), "0 / y", all, true}, {rangeVal(0, 0), rangeVal(0, 0), "x / x", all, true},
	} {
		for _, into := range []string{"z", "x"} {
			head, nodes := bounded(c.x, c.y)
			program := head + into + " = " + c.s + "\noutput 1\nr: return"
			behind := envNode(0, c.want, c.y)
			if into == "z" {
				for i := range nodes {
					nodes[i].Vals = append(nodes[i].Vals, rangeVal(0, 0))
				}
				behind = envNode(0, c.x, c.y, c.want)
			}
			nodes = append(nodes, behind, whole(6, 1, 0, len(behind.Vals))[0])
			takes(t, program, certOf(6, 2, nodes...))
			if c.none {
				nodes[7] = api.Node{}
			}
			exactly(t, program, nodes, 7)
		}
	}
}

func TestRangesOfIfs(t *testing.T) {
	all, none := rangeVal(least64, greatest64), api.Val{}
	type pair [2]api.Val
	is := func(xl, xh, yl, yh int64) pair { return pair{rangeVal(xl, xh), rangeVal(yl, yh)} }
	nothing := pair{none, none}
	for _, c := range []struct {
		ahead   pair
		test    string
		so, not pair
	}{
		{is(0, 9, 5, 20), "x < y", is(0, 9, 5, 20), is(5, 9, 5, 9)}, {is(0, 9, 5, 20), "x <= y", is(0, 9, 5, 20), is(6, 9, 5, 8)}, {is(0, 9, 5, 20), "x == y", is(5, 9, 5, 9), is(0, 9, 5, 20)}, {is(0, 9, 5, 20), "x != y", is(0, 9, 5, 20), is(5, 9, 5, 9)},
		{is(0, 30, 5, 20), "x < y", is(0, 19, 5, 20), is(5, 30, 5, 20)}, {is(0, 30, 5, 20), "x <= y", is(0, 20, 5, 20), is(6, 30, 5, 20)}, {is(7, 30, 5, 20), "x < y", is(7, 19, 8, 20), is(7, 30, 5, 20)}, {is(7, 30, 5, 20), "y < x", is(7, 30, 5, 20), is(7, 20, 7, 20)},
		// Bounds that cross, and bounds that just don't.
		{is(0, 4, 5, 9), "x < y", is(0, 4, 5, 9), nothing}, {is(0, 5, 5, 9), "x < y", is(0, 5, 5, 9), is(5, 5, 5, 5)}, {is(0, 5, 5, 9), "x <= y", is(0, 5, 5, 9), nothing}, {is(0, 5, 5, 9), "y < x", nothing, is(0, 5, 5, 9)}, {is(0, 5, 5, 9), "y <= x", is(5, 5, 5, 5), is(0, 5, 5, 9)}, {is(0, 4, 5, 9), "x == y", nothing, is(0, 4, 5, 9)}, {is(0, 5, 5, 9), "x == y", is(5, 5, 5, 5), is(0, 5, 5, 9)}, {is(0, 4, 5, 9), "x != y", is(0, 4, 5, 9), nothing},
		{is(3, 3, 3, 3), "x != y", nothing, is(3, 3, 3, 3)}, {is(3, 3, 3, 3), "x == y", is(3, 3, 3, 3), nothing}, {is(3, 3, 3, 4), "x != y", is(3, 3, 3, 4), is(3, 3, 3, 3)}, {is(3, 4, 3, 4), "x != y", is(3, 4, 3, 4), is(3, 4, 3, 4)}, {is(3, 3, 4, 4), "x == y", nothing, is(3, 3, 4, 4)},
		// The least and the greatest number.
		{is(least64, greatest64, least64, least64), "x < y", nothing, is(least64, greatest64, least64, least64)}, {is(greatest64, greatest64, least64, greatest64), "x < y", nothing, is(greatest64, greatest64, least64, greatest64)}, {is(least64, greatest64, least64, greatest64), "x < y", is(least64, greatest64-1, least64+1, greatest64), is(least64, greatest64, least64, greatest64)}, {is(least64, greatest64, least64, greatest64), "x <= y", is(least64, greatest64, least64, greatest64), is(least64+1, greatest64, least64, greatest64-1)}, {is(least64, least64, greatest64, greatest64), "y <= x", nothing, is(least64, least64, greatest64, greatest64)},
		// A constant stays what it is.
		{is(0, 9, 1, 1), "x < 5", is(0, 4, 1, 1), is(5, 9, 1, 1)}, {is(0, 9, 1, 1), "5 < x", is(6, 9, 1, 1), is(0, 5, 1, 1)}, {is(0, 9, 1, 1), "x <= 5", is(0, 5, 1, 1), is(6, 9, 1, 1)}, {is(0, 9, 1, 1), "5 <= x", is(5, 9, 1, 1), is(0, 4, 1, 1)}, {is(0, 9, 1, 1), "x == 5", is(5, 5, 1, 1), is(0, 9, 1, 1)}, {is(0, 9, 1, 1), "9 != x", is(0, 9, 1, 1), is(9, 9, 1, 1)}, {is(0, 9, 1, 1), "x == 10", nothing, is(0, 9, 1, 1)}, {is(9, 9, 1, 1), "x != 9", nothing, is(9, 9, 1, 1)}, {is(0, 9, 1, 1), "x < 0", nothing, is(0, 9, 1, 1)}, {is(0, 9, 1, 1), "9 < x", nothing, is(0, 9, 1, 1)}, {is(0, 9, 1, 1), "10 <= x", nothing, is(0, 9, 1, 1)}, {is(0, 9, 1, 1), "x < -9223372036854775808", nothing, is(0, 9, 1, 1)}, {is(0, 9, 1, 1), "9223372036854775807 < x", nothing, is(0, 9, 1, 1)}, {is(0, 9, 1, 1), "x <= 9223372036854775807", is(0, 9, 1, 1), nothing}, {is(0, 9, 1, 1), "-9223372036854775808 <= x", is(0, 9, 1, 1), nothing},
		// Two constants.
		{is(0, 9, 1, 1), "1 < 2", is(0, 9, 1, 1), nothing}, {is(0, 9, 1, 1), "2 < 2", nothing, is(0, 9, 1, 1)}, {is(0, 9, 1, 1), "2 <= 2", is(0, 9, 1, 1), nothing}, {is(0, 9, 1, 1), "3 <= 2", nothing, is(0, 9, 1, 1)}, {is(0, 9, 1, 1), "2 == 2", is(0, 9, 1, 1), nothing}, {is(0, 9, 1, 1), "1 == 2", nothing, is(0, 9, 1, 1)}, {is(0, 9, 1, 1), "1 != 2", is(0, 9, 1, 1), nothing}, {is(0, 9, 1, 1), "2 != 2", nothing, is(0, 9, 1, 1)}, {is(0, 9, 1, 1), "5 < -9223372036854775808", nothing, is(0, 9, 1, 1)}, {is(0, 9, 1, 1), "9223372036854775807 < 5", nothing, is(0, 9, 1, 1)}, {is(0, 9, 1, 1), "9223372036854775807 <= 9223372036854775807", is(0, 9, 1, 1), nothing},
		// Both operands one variable.
		{is(0, 9, 1, 1), "x < x", is(1, 8, 1, 1), is(0, 9, 1, 1)}, {is(0, 2, 1, 1), "x < x", is(1, 1, 1, 1), is(0, 2, 1, 1)}, {is(0, 1, 1, 1), "x < x", nothing, is(0, 1, 1, 1)}, {is(4, 4, 1, 1), "x < x", nothing, is(4, 4, 1, 1)}, {is(0, 9, 1, 1), "x <= x", is(0, 9, 1, 1), is(1, 8, 1, 1)}, {is(0, 1, 1, 1), "x <= x", is(0, 1, 1, 1), nothing}, {is(0, 9, 1, 1), "x == x", is(0, 9, 1, 1), is(0, 9, 1, 1)}, {is(4, 4, 1, 1), "x == x", is(4, 4, 1, 1), nothing}, {is(0, 9, 1, 1), "x != x", is(0, 9, 1, 1), is(0, 9, 1, 1)}, {is(4, 4, 1, 1), "x != x", nothing, is(4, 4, 1, 1)}, {is(least64, greatest64, 1, 1), "x < x", is(least64+1, greatest64-1, 1, 1), is(least64, greatest64, 1, 1)}, {is(least64, least64, 1, 1), "x < x", nothing, is(least64, least64, 1, 1)}, {is(greatest64, greatest64, 1, 1), "x <= x", is(greatest64, greatest64, 1, 1), nothing},
	} {
		head, nodes := bounded(c.ahead[0], c.ahead[1])
		program := head + "if " + c.test + " goto l\noutput 1\nr: return\nl: output 2\nreturn"
		node := func(p pair) api.Node {
			if p == nothing {
				return api.Node{}
			}
			return envNode(0, p[0], p[1])
		}
		nodes = append(nodes, node(c.not), envNode(0, all, all), node(c.so), envNode(0, all, all))
		if c.so == nothing {
			nodes[10] = api.Node{}
		}
		exactly(t, program, nodes, 7)
		exactly(t, program, nodes, 9)
	}
}

// What comes over several edges is joined, at node 0 with what is there at first.
func TestRangesJoined(t *testing.T) {
	p := "l: x = x + 3\nif x < 10 goto l\nif x < 20 goto m\nx = -5\nm: return"
	nodes := []api.Node{envNode(0, rangeVal(0, 9)), envNode(0, rangeVal(3, 12)), envNode(0, rangeVal(10, 12)), {}, envNode(0, rangeVal(10, 12))}
	exactly(t, p, nodes, 0)
	exactly(t, p, nodes, 1)
	exactly(t, p, nodes, 2)
	exactly(t, p, nodes, 4)
	nodes[0] = envNode(0, rangeVal(1, 9))
	refuses(t, p, api.ErrSound, certOf(6, 2, nodes...))
	q := "y = input\nif y < 0 goto a\nif y == 0 goto b\nx = 7\ngoto m\na: x = -2\ngoto m\nb: x = 4\nm: output x\nreturn"
	all, zero := rangeVal(least64, greatest64), rangeVal(0, 0)
	e := func(y, x api.Val) api.Node { return envNode(0, y, x) }
	up, down := rangeVal(0, greatest64), rangeVal(least64, -1)
	nodes = []api.Node{e(zero, zero), e(all, zero), e(up, zero), e(up, zero), e(up, rangeVal(7, 7)), e(down, zero), e(down, rangeVal(-2, -2)), e(zero, zero), e(all, rangeVal(-2, 7)), e(all, rangeVal(-2, 7))}
	for at := 1; at < 10; at++ {
		exactly(t, q, nodes, at)
	}
}
