package warrant

import (
	"reflect"
	"testing"

	"warrant/api"
)

// oneLeast goes through all certificates whose nodes are each one of those:
// each is answered as the oracle answers, and all that are taken as LEAST are
// the same (P8).
func oneLeast(t *testing.T, program string, problem int, choices []api.Node) {
	t.Helper()
	o, e := judge(program)
	if e != api.OK {
		t.Fatalf("%q: %d", program, e)
	}
	var taken []api.Node
	nodes := make([]api.Node, len(o.lines))
	var fill func(n int)
	fill = func(n int) {
		if n < len(nodes) {
			for _, c := range choices {
				nodes[n] = c
				fill(n + 1)
			}
			return
		}
		c := certOf(problem, api.Least, nodes...)
		want := o.checkSpans
		if problem < api.Constants {
			want = o.checkSets
		}
		l, e := Check(program, textOf(t, c))
		if e != want(c) {
			t.Fatalf("P6: Check(%q, %+v): %d, want %d", program, c, e, want(c))
		}
		if e != api.OK {
			return
		}
		if taken != nil && !reflect.DeepEqual(taken, l) {
			t.Fatalf("P8: two are LEAST of %q: %+v, %+v", program, taken, l)
		}
		taken = l
	}
	fill(0)
	if taken == nil {
		t.Errorf("P6: of problem %d none is taken: %q", problem, program)
	}
}

// rankedSubsets are all sets of the facts below count, with all ranks from 0 to most.
func rankedSubsets(count, most int) []api.Node {
	l := []api.Node{{}}
	for f := range count {
		for _, n := range l {
			for rank := range most + 1 {
				l = append(l, factsNode(with(n.Facts, len(n.Facts), f), with(n.Ranks, len(n.Ranks), rank)...))
			}
		}
	}
	return l
}

func TestAllSmallSets(t *testing.T) {
	t.Parallel()
	for _, c := range []struct {
		program string
		facts   [5]int // by problem
	}{
		{"l: x = input\nif x < 1 goto l\nreturn", [5]int{1: 2, 2: 1, 3: 0, 4: 0}},
		{"l: x = x + 1\nif x < 9 goto l\nreturn", [5]int{1: 2, 2: 1, 3: 1, 4: 1}},
		{"y = x + 1\nl: if x < y goto l\nreturn", [5]int{2: 2, 3: 1, 4: 1}},
		{"return\nl: y = x + 1\ngoto l", [5]int{2: 2, 3: 1, 4: 1}},
		{"if x < 1 goto l\nx = x * x\nl: return", [5]int{1: 2, 2: 1, 3: 1, 4: 1}},
		{"l: goto m\nm: if x == x goto l\nreturn", [5]int{1: 1, 2: 1, 3: 0, 4: 0}},
	} {
		for problem := 1; problem <= 4; problem++ {
			if problem == api.Reaching && c.facts[1] == 0 {
				continue
			}
			oneLeast(t, c.program, problem, rankedSubsets(c.facts[problem], 3))
		}
	}
}

func TestAllSmallConstants(t *testing.T) {
	t.Parallel()
	choices := []api.Node{{}}
	for rank := range 3 {
		for _, v := range []api.Val{constantVal(0), constantVal(1), anyVal(), earlyVal(0, rank+1), earlyVal(0, rank+2), earlyVal(1, rank+1), earlyVal(1, rank+2)} {
			choices = append(choices, envNode(rank, v))
		}
	}
	for _, program := range []string{
		"x = 1\nl: if x < 1 goto l\nreturn",
		"l: x = 1\nif x < 1 goto l\nreturn",
		"l: x = 1\nif x == 1 goto l\nreturn",
		"l: x = input\nif x < 1 goto l\nreturn",
		"l: x = x + 1\nif x != 1 goto l\nreturn",
		"x = 1 / x\ngoto l\nl: return",
		"return\nl: x = 1\ngoto l",
		"goto l\nl: x = 1 - x\ngoto l",
	} {
		oneLeast(t, program, api.Constants, choices)
	}
}
