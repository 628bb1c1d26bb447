package warrant

import (
	"fmt"
	"math"
	"math/rand"
	"reflect"
	"strings"
	"testing"

	"warrant/api"
)

func someTuning(r *rand.Rand) api.Tuning {
	u := api.Tuning{Narrow: oneOf(r, 0, 0, 1, 2, 8)}
	for range oneOf(r, 0, 0, 5, 30, 200) {
		u.Picks = append(u.Picks, oneOf(r, r.Intn(20), r.Intn(20), -1, r.Int(), -r.Int(), math.MaxInt, math.MinInt))
	}
	for range oneOf(r, 0, 1, 3, 20) {
		u.Thresholds = append(u.Thresholds, oneOf(r, int64(r.Intn(20)), int64(-r.Intn(20)), someInt64(r), greatest64, least64))
	}
	return u
}

// tuningThatCantBe has one thing too much.
func tuningThatCantBe(r *rand.Rand) api.Tuning {
	u := someTuning(r)
	switch r.Intn(3) {
	case 0:
		u.Picks = make([]int, oneOf(r, 201, 300))
	case 1:
		u.Thresholds = make([]int64, oneOf(r, 21, 64))
	default:
		u.Narrow = oneOf(r, -1, 9, 1000, math.MinInt, math.MaxInt)
	}
	return u
}

// compareAnalyse answers what Check takes, or the error, each as the oracle has it.
func compareAnalyse(t *testing.T, program string, problem int, u api.Tuning) ([]api.Node, api.Errno) {
	t.Helper()
	_, want := judge(program)
	switch {
	case want != api.OK:
	case problem < 1 || problem > 6:
		want = api.ErrProblem
	case len(u.Picks) > 200 || len(u.Thresholds) > 20 || u.Narrow < 0 || u.Narrow > 8:
		want = api.ErrTuning
	default:
		return analysed(t, program, problem, u), api.OK
	}
	if text, e := Analyse(program, problem, u); text != "" || e != want {
		t.Fatalf("P1, P7: Analyse(%q, %d, %+v) = %x, %d, want %d", program, problem, u, text, e, want)
	}
	return nil, want
}

// Of random programs, with any advice: what is written is taken, the tests'
// own search finds the same (P8), and runs keep to it (P8).
func TestRandomAnalyses(t *testing.T) {
	t.Parallel()
	r := rand.New(rand.NewSource(20))
	for range 1200 {
		program, o := goodProgram(r)
		var nodes [7][]api.Node
		for problem := 1; problem <= 6; problem++ {
			u := someTuning(r)
			nodes[problem], _ = compareAnalyse(t, program, problem, u)
			if problem == api.Ranges {
				continue
			}
			if want, _ := Check(program, textOf(t, found(r, o, problem))); !reflect.DeepEqual(nodes[problem], want) {
				t.Fatalf("P8: Analyse(%q, %d, %+v) says %+v, another search %+v", program, problem, u, nodes[problem], want)
			}
		}
		for range 3 {
			inputs := someInputs(r)
			trace, _ := Run(program, inputs, 60)
			if why := o.refuted(nodes, trace); why != "" {
				t.Fatalf("P8: %s: %q with %v: %+v", why, program, inputs, nodes)
			}
		}
	}
}

// ringProgram has up to 60 nodes, with ways back everywhere and small numbers, so that ranges rise slowly.
func ringProgram(r *rand.Rand) string {
	count := 3 + r.Intn(57)
	var b strings.Builder
	for i := range count {
		x := func() string { return oneOf(r, "s", "t", "u", "v", "w", "x", "y", "z") }
		words := x() + " = " + oneOf(r, x(), "0", "1") + " " + oneOf(r, "+", "+", "-", "*", "/") + " " + oneOf(r, x(), "1", "-1", "2")
		if r.Intn(3) == 0 {
			words = "if " + x() + " " + oneOf(r, "<", "<=", "==", "!=") + " " + oneOf(r, x(), "10", "-3", "100") + fmt.Sprintf(" goto l%d", r.Intn(count+1))
		}
		if r.Intn(12) == 0 {
			words = x() + " = input"
		}
		fmt.Fprintf(&b, "l%d: %s\n", i, words)
	}
	return b.String() + fmt.Sprintf("l%d: ", count) + oneOf(r, "return", "goto l0")
}

func TestRandomRings(t *testing.T) {
	t.Parallel()
	r := rand.New(rand.NewSource(21))
	for range 40 {
		program := ringProgram(r)
		o, e := judge(program)
		if e != api.OK {
			t.Fatalf("%q: %d", program, e)
		}
		var nodes [7][]api.Node
		for problem := 1; problem <= 6; problem++ {
			nodes[problem] = analysed(t, program, problem, someTuning(r))
			if other := analysed(t, program, problem, someTuning(r)); problem != api.Ranges && !reflect.DeepEqual(nodes[problem], other) {
				t.Fatalf("P8: Analyse(%q, %d) says %+v, then %+v", program, problem, nodes[problem], other)
			}
		}
		for range 3 {
			inputs := someInputs(r)
			trace, _ := Run(program, inputs, 200)
			if why := o.refuted(nodes, trace); why != "" {
				t.Fatalf("P8: %s: %q with %v: %+v", why, program, inputs, nodes)
			}
		}
	}
}

// Narrowing and thresholds never make ranges that runs leave, in programs that count.
func TestRandomCounters(t *testing.T) {
	t.Parallel()
	r := rand.New(rand.NewSource(22))
	for range 300 {
		program := fmt.Sprintf("x = %d\nl: if x %s %d goto m\nx = x %s %d\ny = y + x\ngoto l\nm: output x\nif y %s x goto l\nreturn",
			r.Intn(40)-20, oneOf(r, "<", "<=", "==", "!="), r.Intn(40)-20, oneOf(r, "+", "-", "*", "/"), r.Intn(9)-4, oneOf(r, "<", "<=", "==", "!="))
		trace, e := Run(program, nil, 2000)
		if e != api.OK {
			t.Fatalf("%q: %d", program, e)
		}
		nodes := analysed(t, program, 6, someTuning(r))
		for _, s := range trace.Steps {
			if !nodes[s.Node].Reached {
				t.Fatalf("P8: %q comes to %+v, which is none", program, s)
			}
			for i, v := range nodes[s.Node].Vals {
				if s.Vals[i] < v.Lo || v.Hi < s.Vals[i] {
					t.Fatalf("P8: %q comes to %+v, which is not in %+v", program, s, nodes[s.Node])
				}
			}
		}
	}
}

// Whatever comes in, of the program, the problem and the advice.
func TestRandomAnalyseErrors(t *testing.T) {
	t.Parallel()
	r := rand.New(rand.NewSource(23))
	var answers [10]int
	for range 3000 {
		program := someProgram(r)
		if r.Intn(4) == 0 {
			program = spoiled(r, program)
		}
		problem := oneOf(r, 1, 2, 3, 4, 5, 6, 0, 7, -1, r.Int())
		u := someTuning(r)
		if r.Intn(3) == 0 {
			u = tuningThatCantBe(r)
		}
		_, e := compareAnalyse(t, program, problem, u)
		answers[e]++
	}
	for _, e := range []api.Errno{api.OK, api.ErrSyntax, api.ErrProgram, api.ErrProblem, api.ErrTuning} {
		if answers[e] < 50 {
			t.Errorf("only %d are answered %d", answers[e], e)
		}
	}
}

func FuzzAnalyse(f *testing.F) {
	r := rand.New(rand.NewSource(24))
	for range 40 {
		f.Add(someProgram(r), 1+r.Intn(6), r.Int(), r.Int(), someInt64(r), someInt64(r), r.Intn(9))
	}
	f.Fuzz(func(t *testing.T, program string, problem, a, b int, c, d int64, narrow int) {
		compareAnalyse(t, program, problem, api.Tuning{Picks: []int{a, b, a}, Thresholds: []int64{c, d}, Narrow: narrow})
	})
}
