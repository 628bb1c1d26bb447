package warrant

import (
	"fmt"
	"math"
	"math/big"
	"math/rand"
	"reflect"
	"slices"
	"strconv"
	"strings"
	"testing"

	"warrant/api"
)

// A search of the tests' own: nodes are looked at in rounds, some of them in
// each, and what is new in a round gets its number as rank, spread out at random.

type finder struct {
	o     oracle
	r     *rand.Rand
	rank  int
	nodes []api.Node
}

// rounds goes on until no node gets anything new.
func (f *finder) rounds(look func(n int) (api.Node, bool)) {
	for more := true; more; {
		lazy := f.r.Intn(3) == 0
		more = lazy
		next := slices.Clone(f.nodes)
		for n := range f.nodes {
			if lazy && f.r.Intn(2) == 0 {
				continue
			}
			node, changed := look(n)
			next[n] = node
			more = more || changed
		}
		f.nodes = next
		f.rank += 1 + f.r.Intn(2)*f.r.Intn(100)
	}
}

func (f *finder) lookAtSet(problem, n int) (api.Node, bool) {
	known := f.o.facts(problem)
	has := func(m int, g fact) bool { return slices.Contains(f.nodes[m].Facts, slices.Index(known, g)) }
	was := f.nodes[n]
	var node api.Node
	for i, g := range known {
		at := slices.Index(was.Facts, i)
		if at >= 0 {
			node.Facts, node.Ranks = append(node.Facts, i), append(node.Ranks, was.Ranks[at])
		} else if f.o.puts(problem, n, g, has) {
			node.Facts, node.Ranks = append(node.Facts, i), append(node.Ranks, f.rank)
		}
	}
	return node, len(node.Facts) > len(was.Facts)
}

func (f *finder) lookAtConstants(n int) (api.Node, bool) {
	said := f.o.said(false, n, func(m int) spans { return f.o.spansAt(f.nodes[m], 1<<30) })
	was := f.nodes[n]
	if said == nil {
		return was, false
	}
	node := api.Node{Reached: true, Rank: was.Rank}
	if !was.Reached {
		node.Rank = f.rank
	}
	changed := !was.Reached
	for i, x := range f.o.vars {
		v := anyVal()
		if !said[x].isAny() {
			v = constantVal(said[x][0].Int64())
		}
		if was.Reached && was.Vals[i].Kind == api.Any {
			v = was.Vals[i]
		}
		if was.Reached && was.Vals[i].Kind == api.Constant && v.Kind == api.Any {
			v = earlyVal(was.Vals[i].Lo, f.rank)
			changed = true
		}
		node.Vals = append(node.Vals, v)
	}
	return node, changed
}

// lookAtRanges lets bounds that move go to a far one, at times.
func (f *finder) lookAtRanges(n int) (api.Node, bool) {
	said := f.o.said(true, n, func(m int) spans { return f.o.spansAt(f.nodes[m], 1<<30) })
	was := f.nodes[n]
	if said == nil || insideSpans(said, f.o.spansAt(was, 1<<30)) {
		return was, false
	}
	node := api.Node{Reached: true}
	for i, x := range f.o.vars {
		v := rangeVal(said[x][0].Int64(), said[x][1].Int64())
		if was.Reached {
			old := was.Vals[i]
			if v.Lo < old.Lo && f.r.Intn(3) == 0 {
				v.Lo = min(v.Lo, oneOf[int64](f.r, math.MinInt64, -3, 0, math.MinInt64+1))
			}
			if v.Hi > old.Hi && f.r.Intn(3) == 0 {
				v.Hi = max(v.Hi, oneOf[int64](f.r, math.MaxInt64, 7, 100, math.MaxInt64-1))
			}
			v.Lo, v.Hi = min(v.Lo, old.Lo), max(v.Hi, old.Hi)
		}
		node.Vals = append(node.Vals, v)
	}
	return node, true
}

// found is a certificate that Check must take: LEAST, but for ranges.
func found(r *rand.Rand, o oracle, problem int) api.Cert {
	f := finder{o: o, r: r, nodes: make([]api.Node, len(o.lines)), rank: r.Intn(3)}
	c := api.Cert{Problem: problem, Grade: api.Least}
	switch problem {
	case api.Constants:
		f.rounds(f.lookAtConstants)
	case api.Ranges:
		c.Grade = api.Sound
		f.rounds(f.lookAtRanges)
	default:
		f.rounds(func(n int) (api.Node, bool) { return f.lookAtSet(problem, n) })
	}
	c.Nodes = f.nodes
	return c
}

// soundOnly is the certificate without what its grade is for.
func soundOnly(c api.Cert) api.Cert {
	return api.Cert{Problem: c.Problem, Grade: api.Sound, Nodes: unranked(c.Nodes)}
}

// without and with are l with one fact less, or one more, at its place.
func without(l []int, i int) []int { return slices.Delete(slices.Clone(l), i, i+1) }

func with(l []int, i, n int) []int { return slices.Insert(slices.Clone(l), i, n) }

// twisted has one thing changed, and is a certificate still.
func twisted(r *rand.Rand, c api.Cert) api.Cert {
	c.Nodes = slices.Clone(c.Nodes)
	i := r.Intn(len(c.Nodes))
	switch r.Intn(30) {
	case 0:
		c.Nodes = slices.Delete(c.Nodes, i, i+1)
	case 1:
		c.Nodes = slices.Insert(c.Nodes, i, c.Nodes[i])
	default:
		if c.Problem < api.Constants {
			c.Nodes[i] = twistedSet(r, c.Nodes[i], c.Grade)
		} else {
			c.Nodes[i] = twistedEnvironment(r, c.Nodes[i], c)
		}
	}
	return c
}

func twistedSet(r *rand.Rand, n api.Node, grade int) api.Node {
	if len(n.Facts) > 0 && grade == api.Least && r.Intn(2) == 0 {
		n.Ranks = slices.Clone(n.Ranks)
		j := r.Intn(len(n.Ranks))
		n.Ranks[j] = max(0, n.Ranks[j]+oneOf(r, -1, 1, -20, 20, -200, 200))
		return n
	}
	fact := r.Intn(8)
	if r.Intn(30) == 0 {
		fact = oneOf(r, 63, 64, 67, 68, 127, 128, 129, 1000, 100000)
	}
	j, here := slices.BinarySearch(n.Facts, fact)
	if here {
		n.Facts = without(n.Facts, j)
	} else {
		n.Facts = with(n.Facts, j, fact)
	}
	if grade == api.Least && here {
		n.Ranks = without(n.Ranks, j)
	} else if grade == api.Least {
		n.Ranks = with(n.Ranks, j, oneOf(r, 0, 1, 5, 1000))
	}
	return n
}

func twistedEnvironment(r *rand.Rand, n api.Node, c api.Cert) api.Node {
	if !n.Reached {
		// As another node that is reached.
		for _, m := range c.Nodes {
			if m.Reached && r.Intn(3) == 0 {
				return m
			}
		}
		return n
	}
	n.Vals = slices.Clone(n.Vals)
	switch r.Intn(12) {
	case 0:
		return api.Node{}
	case 1:
		if len(n.Vals) > 0 && r.Intn(3) == 0 {
			n.Vals = n.Vals[1:]
		} else if len(n.Vals) < api.MaxVars && r.Intn(3) == 0 {
			n.Vals = append(n.Vals, rangeVal(0, 0))
			if c.Problem == api.Constants {
				n.Vals[len(n.Vals)-1] = anyVal()
			}
		}
	case 2, 3:
		if c.Grade == api.Least {
			n.Rank = max(0, n.Rank+oneOf(r, -1, 1, -20, 20, -200))
		}
	default:
		if len(n.Vals) > 0 {
			i := r.Intn(len(n.Vals))
			n.Vals[i] = twistedValue(r, n.Vals[i], n.Rank, c.Grade)
		}
	}
	for i := range n.Vals {
		if n.Vals[i].Early {
			n.Vals[i].Rank = max(n.Vals[i].Rank, n.Rank+1)
		}
	}
	return n
}

func twistedValue(r *rand.Rand, v api.Val, rank, grade int) api.Val {
	by := oneOf[int64](r, -1, 1, -1, 1, 5, -5, math.MaxInt64, math.MinInt64)
	switch {
	case v.Kind == api.Range:
		if r.Intn(2) == 0 {
			v.Lo = min(v.Hi, v.Lo+by)
		} else {
			v.Hi = max(v.Lo, v.Hi+by)
		}
	case v.Early && r.Intn(3) > 0:
		if r.Intn(3) == 0 {
			v.First += by
		} else {
			v.Rank = max(1, v.Rank+oneOf(r, -1, 1, -20, 20, -200, 200))
		}
	case grade == api.Least && r.Intn(2) == 0:
		v = earlyVal(oneOf(r, v.Lo, v.Lo+by), rank+oneOf(r, 1, 2, 300))
	case v.Kind == api.Any:
		v = constantVal(oneOf[int64](r, 0, 1, 2, 7))
	default:
		v = oneOf(r, anyVal(), constantVal(v.Lo+by))
	}
	return v
}

func compareCheck(t *testing.T, program, text string) api.Errno {
	t.Helper()
	want, e := checked(program, text)
	got, f := Check(program, text)
	if e != f || !reflect.DeepEqual(got, want) {
		c, _ := Decode(text)
		t.Fatalf("P6: Check(%q, %x), %+v, = %+v, %d, want %+v, %d", program, text, c, got, f, want, e)
	}
	return f
}

func textOf(t *testing.T, c api.Cert) string {
	t.Helper()
	text, e := Encode(c)
	if e != api.OK {
		t.Fatalf("P5: Encode(%.300v): %d", c, e)
	}
	return text
}

// goodProgram is one that can be, now and then with fewer variables.
func goodProgram(r *rand.Rand) (string, oracle) {
	for {
		program := someProgram(r)
		if r.Intn(2) == 0 {
			program = strings.NewReplacer("z", "x", "abcdef", "y").Replace(program)
		}
		if o, e := judge(program); e == api.OK {
			return program, o
		}
	}
}

// Of random programs: what is found is taken, of both grades; one thing
// changed, or two, it is answered as the oracle answers.
func TestRandomChecks(t *testing.T) {
	t.Parallel()
	r := rand.New(rand.NewSource(6))
	var answers [7][3][10]int
	for range 1500 {
		program, o := goodProgram(r)
		problem := 1 + r.Intn(6)
		c := found(r, o, problem)
		for _, c := range []api.Cert{c, soundOnly(c)} {
			if e := compareCheck(t, program, textOf(t, c)); e != api.OK {
				t.Fatalf("P6: Check(%q, %+v): %d", program, c, e)
			}
			for range 8 {
				bad := twisted(r, c)
				if r.Intn(3) == 0 && len(bad.Nodes) > 0 {
					bad = twisted(r, bad)
				}
				answers[problem][c.Grade][compareCheck(t, program, textOf(t, bad))]++
			}
		}
	}
	for problem := 1; problem <= 6; problem++ {
		for grade := 1; grade <= 2; grade++ {
			for _, e := range []api.Errno{api.OK, api.ErrSize, api.ErrSound, api.ErrLeast} {
				asked := (grade == 2 || problem != 6) && (e != api.ErrLeast || grade == 1)
				if n := answers[problem][grade][e]; asked && n < 20 {
					t.Errorf("problem %d, grade %d: only %d are answered %d", problem, grade, n, e)
				}
			}
		}
	}
}

// greatProgram has 60 nodes, nearly all of them definitions, and more than 64 facts of Reaching.
func greatProgram(r *rand.Rand) string {
	var b strings.Builder
	jumps := []int{r.Intn(59), r.Intn(59)}
	for i := range 59 {
		x := func() string { return oneOf(r, "s", "t", "u", "v", "w", "x", "y", "z") }
		words := x() + " = " + x() + " " + oneOf(r, "+", "-", "*", "/") + " " + oneOf(r, x(), x(), "3", "-1")
		if i < 8 {
			words = "stuvwxyz"[i:i+1] + " = input"
		}
		if i > 8 && slices.Contains(jumps, i) {
			words = "if " + x() + " < " + x() + " goto n" + strconv.Itoa(r.Intn(60))
		}
		fmt.Fprintf(&b, "n%d: %s\n", i, words)
	}
	return b.String() + "n59: return"
}

func TestRandomGreatChecks(t *testing.T) {
	t.Parallel()
	r := rand.New(rand.NewSource(12))
	for range 2 {
		program := greatProgram(r)
		o, e := judge(program)
		if e != api.OK || len(o.facts(1)) <= 64 {
			t.Fatalf("%q: %d, %d facts", program, e, len(o.facts(1)))
		}
		c := found(r, o, api.Reaching)
		if e := compareCheck(t, program, textOf(t, c)); e != api.OK {
			t.Fatalf("P6: Check(%q, %+v): %d", program, c, e)
		}
		for range 20 {
			if bad := twisted(r, c); len(bad.Nodes) <= api.MaxNodes {
				compareCheck(t, program, textOf(t, bad))
			}
		}
	}
}

// A fact less than the least solution has is not sound at any node; one more, with any rank, is never LEAST.
func TestOneFactLessOrMore(t *testing.T) {
	t.Parallel()
	r := rand.New(rand.NewSource(7))
	for range 100 {
		program, o := goodProgram(r)
		for problem := 1; problem <= 4; problem++ {
			c := found(r, o, problem)
			for i, n := range c.Nodes {
				for f := range o.facts(problem) {
					j, here := slices.BinarySearch(n.Facts, f)
					if here {
						c.Nodes[i] = factsNode(without(n.Facts, j), without(n.Ranks, j)...)
						refuses(t, program, api.ErrSound, c)
					} else {
						c.Nodes[i] = factsNode(with(n.Facts, j, f), with(n.Ranks, j, oneOf(r, 0, 1, 2, 5, 100000))...)
						if e := compareCheck(t, program, textOf(t, c)); e != api.ErrSound && e != api.ErrLeast {
							t.Fatalf("P8: Check(%q, %+v): %d", program, c, e)
						}
					}
				}
				c.Nodes[i] = n
			}
		}
	}
}

// So with constants: what is lower is not sound, what is higher is not LEAST.
func TestOneConstantLessOrMore(t *testing.T) {
	t.Parallel()
	r := rand.New(rand.NewSource(8))
	for range 60 {
		program, o := goodProgram(r)
		c := found(r, o, api.Constants)
		for i, n := range c.Nodes {
			if !n.Reached {
				for _, m := range c.Nodes {
					c.Nodes[i] = m
					if e := compareCheck(t, program, textOf(t, c)); m.Reached && e != api.ErrSound && e != api.ErrLeast {
						t.Fatalf("P8: Check(%q, %+v): %d", program, c, e)
					}
				}
				c.Nodes[i] = n
				continue
			}
			c.Nodes[i] = api.Node{}
			if e := compareCheck(t, program, textOf(t, c)); e != api.ErrSound {
				t.Fatalf("P6: node %d as none: Check(%q, %+v): %d", i, program, c, e)
			}
			for j, v := range n.Vals {
				c.Nodes[i].Reached, c.Nodes[i].Rank, c.Nodes[i].Vals = true, n.Rank, slices.Clone(n.Vals)
				for _, w := range []api.Val{anyVal(), earlyVal(v.Lo, n.Rank+1), earlyVal(v.Lo, 100000), constantVal(v.Lo + 1), constantVal(v.Lo - 1)} {
					c.Nodes[i].Vals[j] = w
					e := compareCheck(t, program, textOf(t, c))
					if v.Kind != w.Kind && e == api.OK || w.Kind == api.Constant && e == api.OK {
						t.Fatalf("P8: value %d of node %d as %+v: Check(%q, %+v): %d", j, i, w, program, c, e)
					}
				}
			}
			c.Nodes[i] = n
		}
	}
}

// Whatever bytes come in.
func TestRandomSpoiledChecks(t *testing.T) {
	t.Parallel()
	r := rand.New(rand.NewSource(9))
	var answers [10]int
	for range 3000 {
		program, o := goodProgram(r)
		text := []byte(textOf(t, found(r, o, 1+r.Intn(6))))
		if i := 3 + r.Intn(len(text)-3); r.Intn(4) > 0 {
			text[i] = byte(r.Intn(8))
		}
		if r.Intn(4) == 0 {
			program = spoiled(r, program)
		}
		answers[compareCheck(t, program, string(text))]++
	}
	for _, e := range []api.Errno{api.OK, api.ErrSyntax, api.ErrProgram, api.ErrCert, api.ErrSize, api.ErrSound, api.ErrLeast} {
		if answers[e] < 10 {
			t.Errorf("only %d are answered %d", answers[e], e)
		}
	}
}

// P8: what Check takes holds of every run.
func TestTakenHoldsOfRuns(t *testing.T) {
	t.Parallel()
	r := rand.New(rand.NewSource(10))
	for range 400 {
		program, o := goodProgram(r)
		var nodes [7][]api.Node
		for problem := 1; problem <= 6; problem++ {
			l, e := Check(program, textOf(t, found(r, o, problem)))
			if e != api.OK {
				t.Fatalf("P6: Check(%q) of problem %d: %d", program, problem, e)
			}
			nodes[problem] = l
		}
		for range 3 {
			inputs := someInputs(r)
			trace, _ := Run(program, inputs, 40)
			if why := o.refuted(nodes, trace); why != "" {
				t.Fatalf("P8: %s: %q with %v: %+v", why, program, inputs, nodes)
			}
		}
	}
}

// refuted tells what of the nodes' facts a run gives the lie to.
func (o *oracle) refuted(nodes [7][]api.Node, trace api.Trace) string {
	last := map[string]string{} // each variable's last definition
	hand := map[string]bool{}   // expressions at hand
	for _, v := range o.vars {
		last[v] = "of " + v
	}
	known := [5][]fact{1: o.facts(1), 2: o.facts(2), 3: o.facts(3), 4: o.facts(4)}
	has := func(problem, n int, name string) bool {
		return slices.ContainsFunc(nodes[problem][n].Facts, func(f int) bool { return known[problem][f].name == name })
	}
	for i, s := range trace.Steps {
		if why := o.refutedValues(nodes, s); why != "" {
			return why
		}
		for _, v := range o.vars {
			if !has(1, s.Node, last[v]) {
				return "a definition does not reach"
			}
			if !has(2, s.Node, "of "+v) && o.wanted(trace.Steps[i:], v) {
				return "a variable is used, and not live"
			}
		}
		for _, e := range known[3] {
			if !has(3, s.Node, e.name) && !hand[e.name] {
				return "an expression is not at hand"
			}
			if trace.End == api.Returned && !has(4, s.Node, e.name) && !o.inTime(trace.Steps[i:], e.name) {
				return "an expression is not evaluated in time"
			}
			hand[e.name] = (hand[e.name] || o.expression(s.Node) == e.name) && !o.kills(s.Node, e.name)
		}
		if x := o.defined(s.Node); x != "" {
			last[x] = "at " + big.NewInt(int64(s.Node)).String()
		}
	}
	return ""
}

func (o *oracle) refutedValues(nodes [7][]api.Node, s api.Step) string {
	for problem := 5; problem <= 6; problem++ {
		n := nodes[problem][s.Node]
		if !n.Reached {
			return "a node is reached"
		}
		for i, v := range n.Vals {
			is := s.Vals[i]
			if v.Kind == api.Constant && is != v.Lo || v.Kind == api.Range && (is < v.Lo || v.Hi < is) {
				return "a value is another"
			}
		}
	}
	return ""
}

// wanted: used before it is defined.
func (o *oracle) wanted(steps []api.Step, v string) bool {
	for _, s := range steps {
		if o.uses(s.Node, v) {
			return true
		}
		if o.defined(s.Node) == v {
			return false
		}
	}
	return false
}

// inTime: evaluated before its variables are defined.
func (o *oracle) inTime(steps []api.Step, e string) bool {
	for _, s := range steps {
		if o.expression(s.Node) == e {
			return true
		}
		if o.kills(s.Node, e) {
			return false
		}
	}
	return false
}

func FuzzCheck(f *testing.F) {
	r := rand.New(rand.NewSource(11))
	for range 60 {
		program, o := goodProgram(r)
		text, _ := Encode(found(r, o, 1+r.Intn(6)))
		f.Add(program, text)
	}
	f.Fuzz(func(t *testing.T, program, text string) { compareCheck(t, program, text) })
}
