package source

import (
	"math"
	"slices"
	"strings"
	"testing"

	"warrant/api"
)

func parsed(t *testing.T, text string) Program {
	t.Helper()
	p, e := Parse(text)
	if e != api.OK {
		t.Fatalf("Parse(%q): %d", text, e)
	}
	return p
}

func variable(n int) Operand { return Operand{IsVar: true, Var: n} }

func constant(c int64) Operand { return Operand{Const: c} }

func TestNodes(t *testing.T) {
	text := "x = 5\ny = x\nz = y * -3\ny = input\noutput z\nl: if x <= y goto m\ngoto l\nm: return"
	want := []Node{
		{Kind: Copy, Var: 0, A: constant(5), Edges: []int{1}},
		{Kind: Copy, Var: 1, A: variable(0), Edges: []int{2}},
		{Kind: Compute, Var: 2, Op: Mul, A: variable(1), B: constant(-3), Edges: []int{3}},
		{Kind: Input, Var: 1, Edges: []int{4}},
		{Kind: Output, A: variable(2), Edges: []int{5}},
		{Kind: If, Label: "l", Test: AtMost, A: variable(0), B: variable(1), Edges: []int{7, 6}},
		{Kind: Goto, Edges: []int{5}},
		{Kind: Return, Label: "m"},
	}
	p := parsed(t, text)
	if len(p.Nodes) != len(want) || p.Vars != 3 {
		t.Fatalf("%d nodes, %d variables", len(p.Nodes), p.Vars)
	}
	for i, n := range p.Nodes {
		w := want[i]
		if n.Kind != w.Kind || n.Label != w.Label || n.Var != w.Var || n.Op != w.Op || n.Test != w.Test || n.A != w.A || n.B != w.B || !slices.Equal(n.Edges, w.Edges) {
			t.Errorf("node %d is %+v, want %+v", i, n, w)
		}
	}
}

// Both edges of an if stay, even if they lead to one node.
func TestTwoEdgesToOneNode(t *testing.T) {
	p := parsed(t, "if 1 < 2 goto l\nl: return")
	if !slices.Equal(p.Nodes[0].Edges, []int{1, 1}) {
		t.Errorf("edges %v", p.Nodes[0].Edges)
	}
}

// Variables are numbered as they stand in the text, also in code that is never come to; labels are no variables.
func TestVariablesInOrder(t *testing.T) {
	p := parsed(t, "goto c\nb = d - a\nc: if e < b goto f\nf: output c\nreturn")
	if p.Vars != 5 {
		t.Errorf("%d variables, want 5", p.Vars)
	}
	if n := p.Nodes[1]; n.Var != 0 || n.A != variable(1) || n.B != variable(2) {
		t.Errorf("b, d, a are %+v", n)
	}
	if n := p.Nodes[2]; n.A != variable(3) || n.B != variable(0) {
		t.Errorf("e, b are %+v", n)
	}
	if n := p.Nodes[3]; n.A != variable(4) {
		t.Errorf("c is %+v", n)
	}
}

func TestNames(t *testing.T) {
	for _, s := range []string{"a", "z", "az09az", "inputs", "outpu", "iff", "goto1", "retur"} {
		if !isName(s) {
			t.Errorf("%q is a name", s)
		}
	}
	for _, s := range []string{"", "0", "1a", "A", "aB", "a_", "a-", "é", "aé", "a\x00", "abcdefg", "input", "output", "if", "goto", "return", "`", "{", "a/", "a:"} {
		if isName(s) {
			t.Errorf("%q is no name", s)
		}
	}
}

func TestConstants(t *testing.T) {
	for s, want := range map[string]int64{"0": 0, "7": 7, "-1": -1, "10": 10, "-10": -10, "9223372036854775807": math.MaxInt64, "-9223372036854775808": math.MinInt64} {
		if n, ok := parseConstant(s); !ok || n != want {
			t.Errorf("%q is %d, %v", s, n, ok)
		}
	}
	for _, s := range []string{"", "-", "-0", "00", "01", "-01", "+1", "--1", "1-", "1_0", "0x1", "1e3", "1.0", "٣", "9223372036854775808", "-9223372036854775809", "18446744073709551616", strings.Repeat("9", 2000)} {
		if n, ok := parseConstant(s); ok || n != 0 {
			t.Errorf("%q is %d, %v", s, n, ok)
		}
	}
}

func TestApply(t *testing.T) {
	const least, greatest = math.MinInt64, math.MaxInt64
	for _, c := range []struct {
		op         Op
		a, b, want int64
		ok         bool
	}{
		{Add, 2, 3, 5, true}, {Add, greatest, 1, least, true}, {Add, least, -1, greatest, true},
		{Sub, 2, 3, -1, true}, {Sub, least, 1, greatest, true}, {Sub, 0, least, least, true},
		{Mul, -2, 3, -6, true}, {Mul, greatest, 2, -2, true}, {Mul, least, -1, least, true}, {Mul, least, least, 0, true},
		{Div, 7, 2, 3, true}, {Div, -7, 2, -3, true}, {Div, 7, -2, -3, true}, {Div, -7, -2, 3, true}, {Div, least, -1, least, true}, {Div, least, 1, least, true},
		{Div, 7, 0, 0, false}, {Div, 0, 0, 0, false}, {Div, least, 0, 0, false},
	} {
		if got, ok := c.op.Apply(c.a, c.b); got != c.want || ok != c.ok {
			t.Errorf("%d by %d and %d: %d, %v, want %d, %v", c.op, c.a, c.b, got, ok, c.want, c.ok)
		}
	}
}

func TestHolds(t *testing.T) {
	numbers := []int64{math.MinInt64, -1, 0, 1, math.MaxInt64}
	for i, a := range numbers {
		for j, b := range numbers {
			if Less.Holds(a, b) != (i < j) || AtMost.Holds(a, b) != (i <= j) || Equal.Holds(a, b) != (i == j) || NotEqual.Holds(a, b) != (i != j) {
				t.Errorf("of %d and %d", a, b)
			}
		}
	}
}
