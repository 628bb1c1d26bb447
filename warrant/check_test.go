package warrant

import (
	"fmt"
	"reflect"
	"slices"
	"strings"
	"testing"

	"warrant/api"
)

func refuses(t *testing.T, program string, want api.Errno, c api.Cert) {
	t.Helper()
	text := textOf(t, c)
	if l, e := Check(program, text); e != want || l != nil {
		t.Errorf("P6: Check(%q, %+v) = %+v, %d, want %d", program, c, l, e, want)
	}
}

func takes(t *testing.T, program string, c api.Cert) {
	t.Helper()
	text := textOf(t, c)
	if l, e := Check(program, text); e != api.OK || !reflect.DeepEqual(l, plain(api.Cert{Nodes: unranked(c.Nodes)}).Nodes) {
		t.Errorf("P6: Check(%q, %+v) = %+v, %d, want OK", program, c, l, e)
	}
}

// takesBoth takes a certificate as LEAST, and what it says as SOUND.
func takesBoth(t *testing.T, program string, problem int, nodes ...api.Node) {
	t.Helper()
	takes(t, program, certOf(problem, api.Least, nodes...))
	takes(t, program, certOf(problem, api.Sound, unranked(nodes)...))
}

// refusesBoth refuses it of both grades.
func refusesBoth(t *testing.T, program string, want api.Errno, problem int, nodes ...api.Node) {
	t.Helper()
	refuses(t, program, want, certOf(problem, api.Least, nodes...))
	refuses(t, program, want, certOf(problem, api.Sound, unranked(nodes)...))
}

// leastOnly refuses a certificate as LEAST alone.
func leastOnly(t *testing.T, program string, problem int, nodes ...api.Node) {
	t.Helper()
	refuses(t, program, api.ErrLeast, certOf(problem, api.Least, nodes...))
	takes(t, program, certOf(problem, api.Sound, unranked(nodes)...))
}

// ranked is a node whose facts all have one rank.
func ranked(rank int, facts ...int) api.Node {
	return factsNode(facts, slices.Repeat([]int{rank}, len(facts))...)
}

// The document's third example, with ranks.
func TestCheckOfTheExample(t *testing.T) {
	takesBoth(t, example, 1, factsNode([]int{0, 1}, 0, 2), ranked(0, 1), ranked(1, 1), ranked(2, 1))
	takesBoth(t, example, 2, ranked(0), ranked(0, 0), ranked(0, 0), ranked(0))
	takesBoth(t, example, 3, make([]api.Node, 4)...)
	takesBoth(t, example, 4, make([]api.Node, 4)...)
	takesBoth(t, example, 5, envNode(0, earlyVal(0, 2)), envNode(1, anyVal()), envNode(2, anyVal()), envNode(3, anyVal()))
	all := rangeVal(least64, greatest64)
	upward := rangeVal(10, greatest64)
	takes(t, example, certOf(6, 2, envNode(0, all), envNode(0, all), envNode(0, upward), envNode(0, upward)))
}

// whole are a certificate's nodes that say the most that can be said, with ranks of 0.
func whole(problem int, nodes, facts, vars int) []api.Node {
	n := ranked(0, upTo(facts)...)
	if problem == api.Constants {
		n = envNode(0, slices.Repeat([]api.Val{anyVal()}, vars)...)
	}
	if problem == api.Ranges {
		n = envNode(0, slices.Repeat([]api.Val{rangeVal(least64, greatest64)}, vars)...)
	}
	return slices.Repeat([]api.Node{n}, nodes)
}

func TestWholeIsSound(t *testing.T) {
	program := "a = b + 1\nif a < b goto l\nb = a * 2\nl: c = b + 1\nreturn"
	for problem, facts := range []int{1: 6, 2: 3, 3: 2, 4: 2, 5: 0, 6: 0} {
		if problem > 0 {
			takes(t, program, certOf(problem, 2, unranked(whole(problem, 5, facts, 3))...))
		}
	}
}

func TestSizes(t *testing.T) {
	program := "a = b + 1\nif a < b goto l\nb = a * 2\nl: c = b + 1\nreturn"
	for problem, facts := range []int{1: 6, 2: 3, 3: 2, 4: 2, 5: 0, 6: 0} {
		if problem == 0 {
			continue
		}
		refused := func(nodes []api.Node) {
			t.Helper()
			refuses(t, program, api.ErrSize, certOf(problem, 2, unranked(nodes)...))
			if problem != api.Ranges {
				refuses(t, program, api.ErrSize, certOf(problem, 1, nodes...))
			}
		}
		for _, count := range []int{0, 1, 4, 6, 59, 60} {
			refused(whole(problem, count, facts, 3))
			refused(make([]api.Node, count))
		}
		for at := range 5 {
			nodes := whole(problem, 5, facts, 3)
			for _, vars := range []int{0, 1, 2, 4, 8} {
				if problem >= api.Constants {
					nodes[at] = whole(problem, 1, 0, vars)[0]
					refused(nodes)
				}
			}
			for _, f := range []int{facts, facts + 1, 63, 64, 67, 68, 127, 128, 129, 191, 192, 100000} {
				if problem < api.Constants {
					nodes[at] = ranked(0, append(upTo(facts), f)...)
					refused(nodes)
					nodes[at] = ranked(0, f)
					refused(nodes)
				}
			}
		}
	}
}

// A node that is not reached needs no values, and a program without variables has none.
func TestValuesOfNodesThatAreNotReached(t *testing.T) {
	takesBoth(t, "return\nx = 1\nreturn", 5, envNode(7, constantVal(0)), api.Node{}, api.Node{})
	takes(t, "return\nx = 1\nreturn", certOf(6, 2, envNode(0, rangeVal(0, 0)), api.Node{}, api.Node{}))
	refusesBoth(t, "return\nx = 1\nreturn", api.ErrSize, 5, envNode(7, constantVal(0)), envNode(0), api.Node{})
}

// Of several errors the one that is named first.
func TestErrorsOfCheckInOrder(t *testing.T) {
	good := textOf(t, certOf(2, 2, api.Node{}))
	for _, c := range []struct {
		program, text string
		want          api.Errno
	}{
		{"return", good, api.OK},
		{"x", good, api.ErrSyntax}, {"x", "", api.ErrSyntax}, {"x", textOf(t, certOf(2, 2)), api.ErrSyntax},
		{"", good, api.ErrProgram}, {"", "x", api.ErrProgram}, {"output 1", textOf(t, certOf(2, 2)), api.ErrProgram},
		{strings.Repeat("#", 3001), good, api.ErrSyntax}, {strings.Repeat("return\n", 61), "x", api.ErrProgram},
		{"return", "", api.ErrCert}, {"return", good[:6], api.ErrCert}, {"return", good + "\x00", api.ErrCert}, {"return", "WC\x01\x06\x01\x01\x00", api.ErrCert},
		{"return", strings.Repeat("\x00", 60001), api.ErrCert}, {"return", "WC\x01\x05\x01\x01\x01\x03\x01\x02\x01\x00\x03", api.ErrCert},
		{"return", textOf(t, certOf(2, 2)), api.ErrSize}, {"return", textOf(t, certOf(5, 1)), api.ErrSize},
		// Not sound either: the second node's facts are lacking, and the third has one that there is none of.
		{"goto l\nl: output x\nreturn", textOf(t, certOf(2, 2, api.Node{}, api.Node{}, factsNode([]int{1}))), api.ErrSize},
		{"x = input\noutput x\nreturn", textOf(t, certOf(5, 2, api.Node{}, api.Node{}, envNode(0))), api.ErrSize},
		{"x = input\noutput x\nreturn", textOf(t, certOf(6, 2, api.Node{}, api.Node{}, envNode(0))), api.ErrSize},
		// Not LEAST either, and at an earlier node.
		{"output 1\noutput x\nreturn", textOf(t, certOf(2, 1, factsNode([]int{0}, 0), api.Node{}, api.Node{})), api.ErrSound},
		{"x = input\noutput x\nreturn", textOf(t, certOf(5, 1, envNode(0, anyVal()), envNode(0, anyVal()), api.Node{})), api.ErrSound},
		{"output x\nreturn", textOf(t, certOf(2, 1, factsNode([]int{0}, 0), factsNode([]int{0}, 0))), api.ErrLeast},
	} {
		l, e := Check(c.program, c.text)
		if e != c.want || e != api.OK && l != nil {
			t.Errorf("P1, P6: Check(%.40q, %.40x) = %+v, %d, want %d", c.program, c.text, l, e, c.want)
		}
	}
}

func TestReaching(t *testing.T) {
	// Facts: 0 x and 1 y at first, 2 at node 0, 3 at 1, 4 at 2.
	p := "x = input\nl: y = x\nx = y + 1\nif x < 9 goto l\nreturn"
	takesBoth(t, p, 1, ranked(0, 0, 1), factsNode([]int{1, 2, 3, 4}, 1, 0, 3, 2), factsNode([]int{2, 3, 4}, 1, 0, 3), factsNode([]int{3, 4}, 1, 0), factsNode([]int{3, 4}, 2, 1))
	refusesBoth(t, p, api.ErrSound, 1, ranked(0, 0, 1), factsNode([]int{1, 2, 4}, 1, 0, 2), factsNode([]int{2, 3, 4}, 1, 0, 3), factsNode([]int{3, 4}, 1, 0), factsNode([]int{3, 4}, 2, 1))
	refusesBoth(t, p, api.ErrSound, 1, ranked(0, 1), factsNode([]int{1, 2, 3, 4}, 1, 0, 3, 2), factsNode([]int{2, 3, 4}, 1, 0, 3), factsNode([]int{3, 4}, 1, 0), factsNode([]int{3, 4}, 2, 1))
	// A ring that upholds itself: the beginning value of x at all nodes behind the first.
	leastOnly(t, "x = input\nl: output x\ngoto l", 1, ranked(0, 0), factsNode([]int{0, 1}, 5, 0), factsNode([]int{0, 1}, 4, 1))
	// A rank that is not below: by one, and by just the same.
	leastOnly(t, p, 1, ranked(0, 0, 1), factsNode([]int{1, 2, 3, 4}, 1, 0, 3, 2), factsNode([]int{2, 3, 4}, 0, 0, 3), factsNode([]int{3, 4}, 1, 0), factsNode([]int{3, 4}, 2, 1))
	leastOnly(t, p, 1, ranked(0, 0, 1), factsNode([]int{1, 2, 3, 4}, 0, 0, 3, 2), factsNode([]int{2, 3, 4}, 1, 0, 3), factsNode([]int{3, 4}, 1, 0), factsNode([]int{3, 4}, 2, 1))
	// A node that goes on to itself; the greatest rank.
	takesBoth(t, "l: if x < 9 goto l\nreturn", 1, ranked(99999, 0), ranked(100000, 0))
	leastOnly(t, "l: if x < 9 goto l\nreturn", 1, ranked(100000, 0), ranked(100000, 0))
	leastOnly(t, "goto m\nl: if x < 9 goto l\nm: return", 1, ranked(0, 0), ranked(5, 0), ranked(9, 0))
}

// Both edges of an if lead to one node.
func TestBothEdgesToOneNode(t *testing.T) {
	p := "x = input\nif x < 3 goto l\nl: output x\nreturn"
	takesBoth(t, p, 1, ranked(0, 0), ranked(0, 1), ranked(1, 1), ranked(2, 1))
	takesBoth(t, p, 2, ranked(0), ranked(0, 0), ranked(0, 0), ranked(0))
	takesBoth(t, p, 5, envNode(0, constantVal(0)), envNode(1, anyVal()), envNode(2, anyVal()), envNode(3, anyVal()))
	all, zero := rangeVal(least64, greatest64), rangeVal(0, 0)
	takes(t, p, certOf(6, 2, envNode(0, zero), envNode(0, all), envNode(0, all), envNode(0, all)))
	for _, v := range []api.Val{rangeVal(least64, 2), rangeVal(3, greatest64), rangeVal(least64+1, greatest64), rangeVal(least64, greatest64-1)} {
		refuses(t, p, api.ErrSound, certOf(6, 2, envNode(0, zero), envNode(0, all), envNode(0, v), envNode(0, all)))
	}
	// Of constants one edge is none, and the other one comes all the same.
	for _, test := range []string{"0 < 1", "1 < 0", "x == 0", "x != 0"} {
		p := "if " + test + " goto l\nl: output x\nreturn"
		takesBoth(t, p, 5, envNode(0, constantVal(0)), envNode(1, constantVal(0)), envNode(2, constantVal(0)))
		refusesBoth(t, p, api.ErrSound, 5, envNode(0, constantVal(0)), api.Node{}, api.Node{})
		takes(t, p, certOf(6, 2, envNode(0, zero), envNode(0, zero), envNode(0, zero)))
		refuses(t, p, api.ErrSound, certOf(6, 2, envNode(0, zero), api.Node{}, api.Node{}))
	}
}

// straight is a program of 59 definitions, of eight variables by turns, and a return.
func straight() string {
	var b strings.Builder
	for i := range 59 {
		fmt.Fprintf(&b, "v%d = %d\n", i%8, i)
	}
	return b.String() + "return"
}

// straightFacts: at node n each variable's last definition. Fact 8 + i is that at node i.
func straightFacts(n int) []int {
	var l []int
	for v := n; v < 8; v++ {
		l = append(l, v)
	}
	for i := max(0, n-8); i < n; i++ {
		l = append(l, 8+i)
	}
	return l
}

func TestMoreThan64Facts(t *testing.T) {
	nodes := make([]api.Node, 60)
	for n := range nodes {
		nodes[n].Facts = straightFacts(n)
		for range nodes[n].Facts {
			nodes[n].Ranks = append(nodes[n].Ranks, n)
		}
	}
	if last := nodes[59].Facts; !slices.Equal(last, []int{59, 60, 61, 62, 63, 64, 65, 66}) {
		t.Fatalf("%v", last)
	}
	takesBoth(t, straight(), 1, nodes...)
	for at, n := range nodes {
		for i := range n.Facts {
			nodes[at] = factsNode(without(n.Facts, i), without(n.Ranks, i)...)
			refusesBoth(t, straight(), api.ErrSound, 1, nodes...)
		}
		nodes[at] = n
	}
	last := nodes[59]
	for _, f := range []int{0, 1, 2, 58} {
		nodes[59] = factsNode(with(last.Facts, 0, f), with(last.Ranks, 0, 100000)...)
		leastOnly(t, straight(), 1, nodes...)
	}
	nodes[59] = factsNode(append(last.Facts, 67), append(last.Ranks, 59)...)
	refusesBoth(t, straight(), api.ErrSize, 1, nodes...)
	nodes[59] = factsNode(last.Facts, 59, 59, 59, 59, 59, 59, 59, 0)
	takesBoth(t, straight(), 1, nodes...)
	nodes[59] = factsNode(last.Facts, 59, 59, 59, 59, 59, 58, 59, 0)
	leastOnly(t, straight(), 1, nodes...)
}

func TestLive(t *testing.T) {
	// Variables: 0 x, 1 y, 2 z.
	p := "x = y\nl: if x < z goto m\nx = x - 1\ngoto l\nm: output y\nreturn"
	good := []api.Node{factsNode([]int{1, 2}, 0, 1), factsNode([]int{0, 1, 2}, 0, 1, 0), factsNode([]int{0, 1, 2}, 0, 2, 2), factsNode([]int{0, 1, 2}, 1, 2, 1), ranked(0, 1), ranked(0)}
	leastOnly(t, p, 2, good...)
	good[2] = factsNode([]int{0, 1, 2}, 0, 3, 2)
	takesBoth(t, p, 2, good...)
	for at, n := range good {
		for i := range n.Facts {
			l := slices.Clone(good)
			l[at] = factsNode(without(n.Facts, i), without(n.Ranks, i)...)
			refusesBoth(t, p, api.ErrSound, 2, l...)
		}
	}
	// What is used and defined at one node is live; what is only defined is not.
	takesBoth(t, "x = x + 1\nreturn", 2, ranked(0, 0), ranked(0))
	takesBoth(t, "x = 1\noutput x\nreturn", 2, ranked(0), ranked(0, 0), ranked(0))
	leastOnly(t, "x = 1\noutput x\nreturn", 2, ranked(9, 0), ranked(0, 0), ranked(0))
	refusesBoth(t, "x = x + 1\nreturn", api.ErrSound, 2, ranked(0), ranked(0))
	takesBoth(t, "x = input\nreturn", 2, ranked(0), ranked(0))
	// Nodes that nobody comes to have their rules, and a ring without a use has nothing.
	takesBoth(t, "return\noutput x\nreturn", 2, ranked(0), ranked(0, 0), ranked(0))
	leastOnly(t, "return\nl: if y < y goto l\nm: goto m\noutput x\nreturn", 2, ranked(0), factsNode([]int{0, 1}, 0, 7), ranked(6, 1), ranked(0, 1), ranked(0))
}

func TestLacking(t *testing.T) {
	// Expressions: 0 x + 1, 1 y * y, 2 1 + x; what an if asks, and 2 - 1, are none.
	p := "a = x + 1\nb = y * y\na = 2 - 1\nif x < 1 goto l\na = 1 + x\nx = 5\nl: a = x + 1\nreturn"
	good := []api.Node{ranked(0, 0, 1, 2), ranked(1, 1, 2), ranked(2, 2), ranked(3, 2), ranked(4, 2), ranked(5), factsNode([]int{0, 2}, 0, 0), factsNode([]int{2}, 1)}
	takesBoth(t, p, 3, good...)
	for at, n := range good {
		for i := range n.Facts {
			l := slices.Clone(good)
			l[at] = factsNode(without(n.Facts, i), without(n.Ranks, i)...)
			refusesBoth(t, p, api.ErrSound, 3, l...)
		}
	}
	l := slices.Clone(good)
	l[7] = factsNode([]int{1, 2}, 100000, 1)
	leastOnly(t, p, 3, l...)
	l[7] = factsNode([]int{2}, 0)
	leastOnly(t, p, 3, l...)
	l[7] = factsNode([]int{2, 3}, 1, 1)
	refusesBoth(t, p, api.ErrSize, 3, l...)
	// What kills what it evaluates leaves it lacking.
	takesBoth(t, "x = x / 2\nreturn", 3, ranked(0, 0), ranked(0, 0))
	refusesBoth(t, "x = x / 2\nreturn", api.ErrSound, 3, ranked(0, 0), ranked(0))
	// An input and a copy kill too; an output doesn't.
	takesBoth(t, "y = x - 1\nx = input\ny = x - 1\nx = y\ny = x - 1\noutput x\nreturn", 3, ranked(0, 0), ranked(0), ranked(0, 0), ranked(0), ranked(0, 0), ranked(0), ranked(0))
}

func TestLazy(t *testing.T) {
	// Expressions: 0 x + y, 1 y + x.
	p := "if x < y goto l\nz = x + y\nreturn\nl: x = 1\nz = x + y\nz = y + x\nreturn"
	good := []api.Node{factsNode([]int{0, 1}, 1, 2), factsNode([]int{1}, 1), ranked(0, 0, 1), ranked(0, 0, 1), ranked(0), factsNode([]int{0}, 1), ranked(0, 0, 1)}
	takesBoth(t, p, 4, good...)
	for at, n := range good {
		for i := range n.Facts {
			l := slices.Clone(good)
			l[at] = factsNode(without(n.Facts, i), without(n.Ranks, i)...)
			refusesBoth(t, p, api.ErrSound, 4, l...)
		}
	}
	l := slices.Clone(good)
	l[4] = ranked(100000, 0)
	leastOnly(t, p, 4, l...)
	l[4] = ranked(100000, 1)
	leastOnly(t, p, 4, l...)
	// Evaluated and killed at once is in time.
	takesBoth(t, "x = x + 1\nreturn", 4, ranked(0), ranked(0, 0))
	leastOnly(t, "x = x + 1\nreturn", 4, ranked(1, 0), ranked(0, 0))
	// Of a ring that never returns nothing is late.
	takesBoth(t, "l: y = x * 2\ngoto l", 4, ranked(0), ranked(0))
	leastOnly(t, "l: output 1\nm: goto l\ny = x * 2\nreturn", 4, ranked(3, 0), ranked(4, 0), ranked(0), ranked(0, 0))
}

// No variables, and no expressions.
func TestWithoutFacts(t *testing.T) {
	p := "if 1 < 2 goto l\noutput 5\nl: return"
	for problem := 1; problem <= 4; problem++ {
		takesBoth(t, p, problem, make([]api.Node, 3)...)
		refusesBoth(t, p, api.ErrSize, problem, ranked(0), ranked(0, 0), ranked(0))
	}
	takesBoth(t, p, 5, envNode(0), api.Node{}, envNode(1))
	leastOnly(t, p, 5, envNode(0), envNode(0), envNode(1))
	refusesBoth(t, p, api.ErrSound, 5, api.Node{}, api.Node{}, api.Node{})
	refusesBoth(t, p, api.ErrSound, 5, envNode(0), api.Node{}, api.Node{})
	takes(t, p, certOf(6, 2, envNode(0), api.Node{}, envNode(0)))
	takes(t, p, certOf(6, 2, envNode(0), envNode(0), envNode(0)))
	refuses(t, p, api.ErrSound, certOf(6, 2, api.Node{}, api.Node{}, api.Node{}))
	refuses(t, p, api.ErrSound, certOf(6, 2, envNode(0), api.Node{}, api.Node{}))
	q := "x = 1 + 2\nreturn"
	for problem := 3; problem <= 4; problem++ {
		takesBoth(t, q, problem, make([]api.Node, 2)...)
		refusesBoth(t, q, api.ErrSize, problem, ranked(0, 0), ranked(0))
	}
}

// P2: answers are new memory, and hang on the arguments alone.
func TestCheckKeepsNothing(t *testing.T) {
	program := "a = b + 1\nif a < b goto l\nb = a * 2\nl: c = b + 1\nreturn"
	for problem, facts := range []int{1: 6, 2: 3, 3: 2, 4: 2, 5: 0, 6: 0} {
		if problem == 0 {
			continue
		}
		c := certOf(problem, 2, unranked(whole(problem, 5, facts, 3))...)
		text := textOf(t, c)
		first, _ := Check(program, text)
		second, _ := Check(program, text)
		if spoil(api.Cert{Nodes: first}) {
			t.Errorf("P2: two lists of an answer share memory, of problem %d", problem)
		}
		third, _ := Check(program, text)
		want := plain(c).Nodes
		if !reflect.DeepEqual(second, want) || !reflect.DeepEqual(third, want) {
			t.Errorf("P2: an answer hangs on another one, of problem %d", problem)
		}
	}
}
