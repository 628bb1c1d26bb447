package warrant

import (
	"fmt"
	"math"
	"reflect"
	"slices"
	"strings"
	"testing"

	"warrant/api"
)

// analysed is what Check takes of what Analyse writes. The oracle must take
// it too, and problem and grade must be those that are asked for.
func analysed(t *testing.T, program string, problem int, u api.Tuning) []api.Node {
	t.Helper()
	text, e := Analyse(program, problem, u)
	if e != api.OK {
		t.Fatalf("P7: Analyse(%q, %d, %+v): %d", program, problem, u, e)
	}
	grade := api.Least
	if problem == api.Ranges {
		grade = api.Sound
	}
	if c, e := Decode(text); e != api.OK || c.Problem != problem || c.Grade != grade {
		t.Fatalf("P7: Analyse(%q, %d, %+v) writes problem %d, grade %d (%d)", program, problem, u, c.Problem, c.Grade, e)
	}
	if e := compareCheck(t, program, text); e != api.OK {
		t.Fatalf("P7: Check of what Analyse(%q, %d, %+v) writes: %d", program, problem, u, e)
	}
	nodes, _ := Check(program, text)
	return nodes
}

// advice is of all kinds, as much of it as there may be.
func advice() []api.Tuning {
	extremes := []int64{greatest64, least64, 0, -1, 1, greatest64 - 1, least64 + 1}
	falling := make([]int, 200)
	for i := range falling {
		falling[i] = 200 - i
	}
	return []api.Tuning{
		{}, {Narrow: 1}, {Narrow: 8}, {Picks: []int{}, Thresholds: []int64{}},
		{Picks: falling}, {Picks: slices.Repeat([]int{-1}, 200)}, {Picks: slices.Repeat([]int{1}, 199), Narrow: 8},
		{Picks: []int{5, 3, 8, -1, 2, 7, 7, 7, math.MaxInt, math.MinInt, math.MinInt + 1, 0}, Thresholds: []int64{10}},
		{Thresholds: []int64{0, 10, 100}, Narrow: 8}, {Thresholds: []int64{100, -7, 10, 10, 100, 9}}, {Thresholds: extremes}, {Thresholds: slices.Repeat([]int64{10}, 20), Narrow: 3},
		{Picks: slices.Repeat([]int{4, 9, 2, 6}, 50), Thresholds: slices.Repeat([]int64{3, -3}, 10), Narrow: 8},
	}
}

// loops has a ring of 60 nodes and eight variables that go round in it, with ways out and back.
func loops() string {
	var b strings.Builder
	for i := range 59 {
		switch {
		case i%7 == 6:
			fmt.Fprintf(&b, "l%d: if v%d < v%d goto l%d\n", i, i%8, (i+3)%8, (i*i+5)%60)
		case i%11 == 4:
			fmt.Fprintf(&b, "l%d: v%d = input\n", i, i%8)
		default:
			fmt.Fprintf(&b, "l%d: v%d = v%d + %d\n", i, i%8, (i+1)%8, i%3)
		}
	}
	return b.String() + "l59: goto l0"
}

// subjects are programs of each kind that the search meets.
func subjects() map[string]string {
	return map[string]string{
		"the example":           example,
		"one node":              "return",
		"one node, a ring":      "l: goto l",
		"a sum":                 "i = 0\ns = 0\nl: if i == 10 goto d\ns = s + i\ni = i + 1\ngoto l\nd: output s\nreturn",
		"branches that meet":    "z = input\nif z < 0 goto l\nx = 1\nw = 5\ngoto m\nl: x = 2\nw = 5\nm: y = x - x\noutput w\nreturn",
		"both edges to one":     "x = input\nif x < 3 goto l\nl: y = x + 1\nreturn",
		"nodes not reached":     "x = x + 1\nreturn\nr: y = y + 1\nif y < x goto r\nreturn",
		"never comes to an end": "l: x = x + 1\nif 0 <= x goto l\ngoto l\nreturn",
		"without variables":     "if 1 < 2 goto l\noutput 5\nl: if 2 < 1 goto m\nreturn\nm: goto m",
		"without expressions":   "x = 1 + 2\nl: x = input\ny = x\nif x < y goto l\nreturn",
		"traps":                 "x = input\ny = x / 0\noutput y\nreturn",
		"may trap":              "l: x = input\ny = 7 / x\nz = y / -1\nif z != y goto l\nreturn",
		"rings in rings":        "a: i = i + 1\nb: j = j + i\nc: k = k - j\nif k < 0 goto c\nif j < 100 goto b\nif i < 10 goto a\nreturn",
		"two ways into a ring":  "x = input\nif x < 0 goto m\nl: y = y + 1\nm: y = y * 2\nif y < 50 goto l\noutput y\nreturn",
		"from the end back":     "goto e\na: x = x + 1\ngoto b\nd: return\nc: if x < 3 goto a\ngoto d\nb: y = x * x\ngoto c\ne: x = 0 - 2\ngoto c",
		"wraps round":           "x = 9223372036854775807\nl: x = x + 1\nif x == 0 goto d\nx = x * x\ngoto l\nd: return",
		"a line, 60 nodes":      straight(),
		"60 nodes, all return":  strings.Repeat("return\n", 60),
		"60 nodes, many ifs":    strings.Repeat("x = x + 1\nif x < 0 goto l\n", 29) + "x = 5\nl: return",
		"60 nodes, rings":       loops(),
	}
}

func TestAnalyse(t *testing.T) {
	t.Parallel()
	for name, program := range subjects() {
		t.Run(name, func(t *testing.T) {
			t.Parallel()
			for problem := 1; problem <= 6; problem++ {
				first := analysed(t, program, problem, api.Tuning{})
				for _, u := range advice() {
					if got := analysed(t, program, problem, u); problem != api.Ranges && !reflect.DeepEqual(got, first) {
						t.Errorf("P7, P8: Analyse(%q, %d, %+v) says %+v, without advice %+v", program, problem, u, got, first)
					}
				}
			}
		})
	}
}

func TestAnalyseErrors(t *testing.T) {
	tuned := func(picks, thresholds, narrow int) api.Tuning {
		return api.Tuning{Picks: make([]int, picks), Thresholds: make([]int64, thresholds), Narrow: narrow}
	}
	good, bad := tuned(0, 0, 0), tuned(201, 21, -1)
	for _, c := range []struct {
		program string
		problem int
		u       api.Tuning
		want    api.Errno
	}{
		{"x", 1, good, api.ErrSyntax}, {"x", 0, good, api.ErrSyntax}, {"x", 7, bad, api.ErrSyntax}, {"x", 1, bad, api.ErrSyntax}, {strings.Repeat("\n", 3001), 0, bad, api.ErrSyntax}, {"goto l\nx", 9, bad, api.ErrSyntax},
		{"", 1, good, api.ErrProgram}, {"", 0, good, api.ErrProgram}, {"", 7, bad, api.ErrProgram}, {"output 1", 6, bad, api.ErrProgram}, {strings.Repeat("return\n", 61), 1, good, api.ErrProgram}, {"goto l", -1, bad, api.ErrProgram},
		{"return", 0, good, api.ErrProblem}, {"return", 7, good, api.ErrProblem}, {"return", -1, good, api.ErrProblem}, {"return", math.MinInt, good, api.ErrProblem}, {"return", math.MaxInt, good, api.ErrProblem}, {"return", 256 + 1, good, api.ErrProblem}, {"return", 1<<32 + 1, good, api.ErrProblem}, {"return", 0, bad, api.ErrProblem}, {"return", 7, tuned(201, 0, 0), api.ErrProblem},
		{"return", 1, bad, api.ErrTuning}, {"return", 6, bad, api.ErrTuning}, {"return", 1, tuned(201, 0, 0), api.ErrTuning}, {"return", 2, tuned(0, 21, 0), api.ErrTuning}, {"return", 3, tuned(0, 0, -1), api.ErrTuning}, {"return", 4, tuned(0, 0, 9), api.ErrTuning}, {"return", 5, tuned(0, 0, math.MinInt), api.ErrTuning}, {"return", 6, tuned(0, 0, math.MaxInt), api.ErrTuning}, {"return", 6, tuned(1<<20, 0, 0), api.ErrTuning}, {"return", 6, tuned(0, 1<<20, 0), api.ErrTuning}, {"return", 1, tuned(0, 0, 1<<32), api.ErrTuning},
		{"return", 1, tuned(200, 20, 8), api.OK}, {"return", 6, tuned(200, 20, 8), api.OK}, {"return", 6, tuned(200, 20, 0), api.OK},
	} {
		text, e := Analyse(c.program, c.problem, c.u)
		if e != c.want || (text == "") != (e != api.OK) {
			t.Errorf("P1, P7: Analyse(%.20q, %d, %d picks, %d thresholds, %d) = %.20q, %d, want %d", c.program, c.problem, len(c.u.Picks), len(c.u.Thresholds), c.u.Narrow, text, e, c.want)
		}
	}
}

// What is found, of the document's examples and others, by hand.
func TestAnalysedFacts(t *testing.T) {
	sum := subjects()["a sum"]
	meet := subjects()["branches that meet"]
	for _, c := range []struct {
		program string
		problem int
		want    [][]int
	}{
		{example, 1, [][]int{{0, 1}, {1}, {1}, {1}}}, {example, 2, [][]int{nil, {0}, {0}, nil}}, {example, 3, make([][]int, 4)}, {example, 4, make([][]int, 4)},
		{sum, 1, [][]int{{0, 1}, {1, 2}, {2, 3, 4, 5}, {2, 3, 4, 5}, {2, 4, 5}, {4, 5}, {2, 3, 4, 5}, {2, 3, 4, 5}}}, {sum, 2, [][]int{nil, {0}, {0, 1}, {0, 1}, {0, 1}, {0, 1}, {1}, nil}},
		// s + i is 0, i + 1 is 1: each is killed by what it is worked out for.
		{sum, 3, slices.Repeat([][]int{{0, 1}}, 8)}, {sum, 4, [][]int{{0, 1}, {0, 1}, {0, 1}, nil, {0}, {0, 1}, {0, 1}, {0, 1}}},
		// z 0, x 1, w 2, y 3 at first; then z 4, x 5, w 6, x 7, w 8, y 9.
		{meet, 1, [][]int{{0, 1, 2, 3}, {1, 2, 3, 4}, {1, 2, 3, 4}, {2, 3, 4, 5}, {3, 4, 5, 6}, {1, 2, 3, 4}, {2, 3, 4, 7}, {3, 4, 5, 6, 7, 8}, {4, 5, 6, 7, 8, 9}, {4, 5, 6, 7, 8, 9}}},
		{meet, 2, [][]int{nil, {0}, nil, {1}, {1, 2}, nil, {1}, {1, 2}, {2}, nil}}, {meet, 3, [][]int{{0}, {0}, {0}, {0}, {0}, {0}, {0}, {0}, nil, nil}}, {meet, 4, [][]int{{0}, {0}, {0}, nil, nil, {0}, nil, nil, {0}, {0}}},
		// Nodes that are not reached have what comes from their like.
		{"return\nl: x = x + 1\ngoto l", 1, [][]int{{0}, {1}, {1}}}, {"return\nl: x = x + 1\ngoto l", 2, [][]int{nil, {0}, {0}}}, {"return\nl: x = x + 1\ngoto l", 3, [][]int{{0}, {0}, {0}}}, {"return\nl: x = x + 1\ngoto l", 4, [][]int{{0}, nil, nil}},
	} {
		var got [][]int
		for _, n := range analysed(t, c.program, c.problem, api.Tuning{}) {
			got = append(got, n.Facts)
		}
		if !reflect.DeepEqual(got, c.want) {
			t.Errorf("P7: Analyse(%q, %d) says %v, want %v", c.program, c.problem, got, c.want)
		}
	}
	for n, node := range analysed(t, straight(), 1, api.Tuning{}) {
		if want := straightFacts(n); !reflect.DeepEqual(node.Facts, want) {
			t.Errorf("P7: node %d has %v, want %v", n, node.Facts, want)
		}
	}
}

// Constants as letters: a number, "?" for any, "-" for a node that is none.
func constantsAs(nodes []api.Node) []string {
	var l []string
	for _, n := range nodes {
		words := []string{}
		for _, v := range n.Vals {
			if v.Kind == api.Any {
				words = append(words, "?")
			} else {
				words = append(words, fmt.Sprint(v.Lo))
			}
		}
		if !n.Reached {
			words = []string{"-"}
		}
		l = append(l, strings.Join(words, " "))
	}
	return l
}

func TestAnalysedConstants(t *testing.T) {
	for _, c := range []struct {
		program string
		want    []string
	}{
		{example, []string{"?", "?", "?", "?"}},
		{"return", []string{""}},
		{subjects()["without variables"], []string{"", "-", "", "", "-"}},
		{subjects()["branches that meet"], []string{"0 0 0 0", "? 0 0 0", "? 0 0 0", "? 1 0 0", "? 1 5 0", "? 0 0 0", "? 2 0 0", "? ? 5 0", "? ? 5 ?", "? ? 5 ?"}},
		{subjects()["nodes not reached"], []string{"0 0", "1 0", "-", "-", "-"}},
		{subjects()["traps"], []string{"0 0", "? 0", "-", "-"}},
		{"x = 0\nl: x = x + 1\nif x < y goto l\nreturn", []string{"0 0", "0 0", "1 0", "1 0"}},
		// y stays what it is in the ring, x does not.
		{"y = 4\nl: x = x + 1\nif x < y goto l\ny = y / -1\nreturn", []string{"0 0", "4 ?", "4 ?", "4 ?", "-4 ?"}},
		{"x = -9223372036854775808\ny = x / -1\nz = y - 1\nreturn", []string{"0 0 0", "-9223372036854775808 0 0", "-9223372036854775808 -9223372036854775808 0", "-9223372036854775808 -9223372036854775808 9223372036854775807"}},
		// A branch that is taken only when x is any.
		{"l: if x == 1 goto m\nx = x + 1\ngoto l\nm: y = 7\ngoto l", []string{"? ?", "? ?", "? ?", "? ?", "? 7"}},
	} {
		for _, u := range advice() {
			if got := constantsAs(analysed(t, c.program, 5, u)); !slices.Equal(got, c.want) {
				t.Errorf("P7: Analyse(%q, 5, %+v) says %q, want %q", c.program, u, got, c.want)
			}
		}
	}
}

// Constants that become any after a first value are told so, and taken.
func TestAnalysedEarly(t *testing.T) {
	for program, at := range map[string][2]int{
		example: {0, 0},
		"y = 4\nl: x = x + 1\nif x < y goto l\nreturn":                   {1, 1},
		"l: x = 1 - x\ngoto l":                                           {0, 0},
		"v = 1\nl: w = x\nx = y\ny = z\nz = v\nif w == 0 goto l\nreturn": {1, 2},
	} {
		for _, u := range advice() {
			text, _ := Analyse(program, 5, u)
			c, e := Decode(text)
			if e != api.OK || !c.Nodes[at[0]].Vals[at[1]].Early {
				t.Errorf("P7: Analyse(%q, 5, %+v) writes %+v, %d", program, u, c, e)
			}
			analysed(t, program, 5, u)
		}
	}
}

// Ranges end, whatever rises, and are sound; the advice shows in them.
func TestAnalysedRanges(t *testing.T) {
	up := "l: if 10 <= x goto d\nx = x + 1\ngoto l\nd: output x\nreturn"
	runs, _ := Run(up, nil, 2000)
	for _, c := range []struct {
		u    api.Tuning
		want api.Val
	}{
		{api.Tuning{}, rangeVal(10, greatest64)}, {api.Tuning{Narrow: 1}, rangeVal(10, 10)}, {api.Tuning{Narrow: 8}, rangeVal(10, 10)},
		{api.Tuning{Thresholds: []int64{100, 5, 10, 5}}, rangeVal(10, 10)}, {api.Tuning{Thresholds: []int64{100, -1}}, rangeVal(10, 100)}, {api.Tuning{Thresholds: []int64{-1}, Narrow: 2}, rangeVal(10, 10)},
	} {
		got := analysed(t, up, 6, c.u)[3].Vals[0]
		if got != c.want || runs.Outputs[0] < got.Lo || got.Hi < runs.Outputs[0] {
			t.Errorf("P7: Analyse(%q, 6, %+v) says %+v, want %+v", up, c.u, got, c.want)
		}
	}
	nodes := analysed(t, example, 6, api.Tuning{Thresholds: []int64{100}, Narrow: 1})
	if upward := rangeVal(10, greatest64); nodes[2].Vals[0] != upward || nodes[3].Vals[0] != upward {
		t.Errorf("P7: of the example: %+v", nodes)
	}
	for _, program := range []string{
		"l: x = x + 1\ngoto l", "l: x = x - 3\ngoto l", "x = 1\nl: x = x * -2\ngoto l", "x = 1\nl: x = x + x\nif x != 0 goto l\nreturn",
		"l: x = x + 1\ny = y - x\nz = z * y\nif z < x goto l\ngoto l", "l: if x < y goto m\ny = y + 1\ngoto l\nm: x = x + 1\ngoto l",
		"l: x = y + 1\ny = z + 1\nz = x + 1\ngoto l", "l: if x < 9223372036854775807 goto m\nreturn\nm: x = x + 1\ngoto l", "l: if -9223372036854775808 < x goto m\nreturn\nm: x = x - 1\ngoto l",
	} {
		for _, u := range advice() {
			analysed(t, program, 6, u)
		}
	}
}

// P2: the advice stays as it is, its spare room too, and the answer hangs on the arguments alone.
func TestAnalyseKeepsNothing(t *testing.T) {
	picks, thresholds := []int{9, -3, 7, 1, 5}, []int64{50, 10, 10, -5, 3}
	u := api.Tuning{Picks: picks[:4], Thresholds: thresholds[:4], Narrow: 1}
	other := api.Tuning{Picks: []int{1}, Thresholds: []int64{1}, Narrow: 8}
	program := subjects()["rings in rings"]
	for problem := 1; problem <= 6; problem++ {
		first, _ := Analyse(program, problem, u)
		want := strings.Clone(first)
		Analyse(program, problem, other)
		second, _ := Analyse(program, problem, api.Tuning{Picks: []int{9, -3, 7, 1}, Thresholds: []int64{50, 10, 10, -5}, Narrow: 1})
		if first != want || second != want {
			t.Errorf("P2: Analyse of problem %d answers %x, then %x", problem, first, second)
		}
		if !slices.Equal(picks, []int{9, -3, 7, 1, 5}) || !slices.Equal(thresholds, []int64{50, 10, 10, -5, 3}) {
			t.Fatalf("P2: the advice is %v, %v", picks, thresholds)
		}
	}
}
