package rules

import (
	"math"
	"math/big"
	"math/rand"
	"slices"
	"testing"

	"warrant/api"
	"warrant/facts"
	"warrant/source"
)

// edges are numbers at which results begin not to fit, and some between.
func edges() []int64 {
	l := []int64{0, 1, -1, 2, -2, 3, 10, 1<<31 - 1, 1 << 31, 1 << 32, -1 << 31, -1 << 32, 3037000499, 3037000500, -3037000500, 1<<62 - 1, 1 << 62, -1 << 62, -1<<62 - 1, math.MaxInt64 / 3, math.MinInt64 / 3}
	for i := range int64(4) {
		l = append(l, math.MinInt64+i, math.MaxInt64-i)
	}
	return l
}

func TestExact(t *testing.T) {
	for _, a := range edges() {
		for _, b := range edges() {
			x, y := big.NewInt(a), big.NewInt(b)
			for _, c := range []struct {
				name string
				got  exact
				want *big.Int
			}{
				{"sum", sum(a, b), new(big.Int).Add(x, y)}, {"difference", difference(a, b), new(big.Int).Sub(x, y)}, {"product", product(a, b), new(big.Int).Mul(x, y)},
			} {
				if c.got.fits != c.want.IsInt64() || c.got.fits && c.got.n != c.want.Int64() {
					t.Errorf("%s of %d and %d: %+v, want %v", c.name, a, b, c.got, c.want)
				}
			}
		}
	}
}

func TestAround(t *testing.T) {
	good := func(n int64) exact { return exact{n, true} }
	if got := around(good(3)); got != (Bounds{3, 3}) {
		t.Errorf("one: %v", got)
	}
	if got := around(good(3), good(-2), good(9), good(0)); got != (Bounds{-2, 9}) {
		t.Errorf("four: %v", got)
	}
	for i := range 4 {
		l := []exact{good(1), good(2), good(3), good(4)}
		l[i].fits = false
		if got := around(l[0], l[1:]...); got != all() {
			t.Errorf("%d does not fit: %v", i, got)
		}
	}
}

func parsed(t *testing.T, text string) source.Program {
	t.Helper()
	p, e := source.Parse(text)
	if e != api.OK {
		t.Fatalf("%q: %d", text, e)
	}
	return p
}

func TestCountsOfFacts(t *testing.T) {
	p := parsed(t, "a = b + 1\na = b + 1\na = 1 + b\na = 1 + 2\nc = a - a\nc = a + b\nc = b + a\nif a < b goto l\nc = input\nl: c = a\noutput c\nreturn")
	for problem, want := range []int{1: 3 + 9, 2: 3, 3: 5, 4: 5} {
		if problem == 0 {
			continue
		}
		if _, got := Sets(p, problem); got != want {
			t.Errorf("problem %d: %d facts, want %d", problem, got, want)
		}
	}
}

// The edges of sets: forward for Reaching and Lacking, against the program's for Live and Lazy.
func TestWhereThingsComeFrom(t *testing.T) {
	p := parsed(t, "l: x = x + 1\nif x < 9 goto l\nreturn")
	for problem, want := range map[int][][]int{
		api.Reaching: {{1}, {0}, {1}}, api.Lacking: {{1}, {0}, {1}}, api.Live: {{1}, {0, 2}, nil}, api.Lazy: {{1}, {0, 2}, nil},
	} {
		s, _ := Sets(p, problem)
		for n, rule := range s.Rules {
			var got []int
			for _, e := range rule.Edges {
				got = append(got, e.From)
			}
			if !slices.Equal(got, want[n]) {
				t.Errorf("problem %d, node %d: %v, want %v", problem, n, got, want[n])
			}
		}
	}
}

// Says joins the start and all edges.
func TestSays(t *testing.T) {
	p := parsed(t, "if x < 1 goto m\nx = 1\ngoto m\nm: if x < 2 goto n\nx = 2\ngoto m\nn: return")
	s, _ := Sets(p, api.Reaching)
	held := func(n int) facts.Set { return facts.Of(0) }
	if got := slices.Collect(s.Says(0, held).All()); !slices.Equal(got, []int{0}) {
		t.Errorf("node 0: %v", got)
	}
	if got := slices.Collect(s.Says(2, held).All()); !slices.Equal(got, []int{1}) {
		t.Errorf("node 2: %v", got)
	}
	nothing := func(n int) facts.Set { return facts.Set{} }
	if got := slices.Collect(s.Says(3, nothing).All()); len(got) != 0 {
		t.Errorf("node 3, of nothing: %v", got)
	}
	given := func(n int) facts.Set { return facts.Of(n % 3) }
	if got := slices.Collect(s.Says(3, given).All()); !slices.Equal(got, []int{0, 2}) {
		t.Errorf("node 3: %v", got)
	}
}

// None joins and is ordered as the lowest.
func TestNone(t *testing.T) {
	p := parsed(t, "x = 1\nreturn")
	c, r := Constants(p), Ranges(p)
	five := Env[Constant]{Reached: true, Vals: [api.MaxVars]Constant{{C: 5}}}
	if c.Join() != (Env[Constant]{}) || c.Join(Env[Constant]{}, five) != five || c.Join(five, Env[Constant]{}) != five {
		t.Error("constants joined with none")
	}
	if !c.Below(Env[Constant]{}, five) || !c.Below(Env[Constant]{}, Env[Constant]{}) || c.Below(five, Env[Constant]{}) {
		t.Error("constants and none in order")
	}
	to := Env[Bounds]{Reached: true, Vals: [api.MaxVars]Bounds{{5, 7}}}
	if r.Join() != (Env[Bounds]{}) || r.Join(Env[Bounds]{}, to) != to || r.Join(to, Env[Bounds]{}, Env[Bounds]{}) != to {
		t.Error("ranges joined with none")
	}
	if !r.Below(Env[Bounds]{}, to) || !r.Below(Env[Bounds]{}, Env[Bounds]{}) || r.Below(to, Env[Bounds]{}) {
		t.Error("ranges and none in order")
	}
	for _, rule := range c.Rules {
		for _, e := range rule.Edges {
			if e.Make(Env[Constant]{}) != (Env[Constant]{}) {
				t.Error("something of none")
			}
		}
	}
}

// What an edge makes leaves the environment that it is made of.
func TestEdgesKeepNothing(t *testing.T) {
	p := parsed(t, "l: x = x + 1\nif x < 5 goto l\nreturn")
	r := Ranges(p)
	ahead := Env[Bounds]{Reached: true, Vals: [api.MaxVars]Bounds{{0, 9}}}
	kept := ahead
	for _, rule := range r.Rules {
		for _, e := range rule.Edges {
			first := e.Make(ahead)
			if again := e.Make(ahead); first != again || ahead != kept {
				t.Errorf("from %d: %v, then %v, of %v", e.From, first, again, ahead)
			}
		}
	}
}

// Joins take as many as there are.
func TestJoins(t *testing.T) {
	p := parsed(t, "x = 1\nreturn")
	c, r := Constants(p), Ranges(p)
	constant := func(n int64) Env[Constant] {
		return Env[Constant]{Reached: true, Vals: [api.MaxVars]Constant{{C: n}}}
	}
	if got := c.Join(constant(4), constant(4), constant(4)); got != constant(4) {
		t.Errorf("%v", got)
	}
	if got := c.Join(constant(4), constant(4), constant(5), constant(4)); !got.Vals[0].Any || got.Vals[0].C != 0 || got.Vals[1] != (Constant{}) {
		t.Errorf("%v", got)
	}
	bounds := func(lo, hi int64) Env[Bounds] {
		return Env[Bounds]{Reached: true, Vals: [api.MaxVars]Bounds{{lo, hi}}}
	}
	if got := r.Join(bounds(1, 2), bounds(-4, 0), bounds(9, 9)); got != bounds(-4, 9) {
		t.Errorf("%v", got)
	}
}

// What is lower ahead of an edge is lower behind it: the search leans on this.
func TestEdgesKeepOrder(t *testing.T) {
	r := rand.New(rand.NewSource(1))
	some := func() int64 { return edges()[r.Intn(len(edges()))] }
	for _, words := range []string{
		"x = y", "x = input", "x = x + y", "x = x - y", "x = x * y", "x = x / y", "x = x - x", "x = x * x", "x = x / x", "x = y / 3", "x = y / -1", "x = y / -3", "x = 7 / y",
		"if x < y goto l", "if x <= y goto l", "if x == y goto l", "if x != y goto l", "if x < x goto l", "if x <= x goto l", "if x == x goto l", "if x != x goto l", "if x < 3 goto l", "if 3 <= x goto l", "if 3 == y goto l", "if y != 3 goto l",
	} {
		p := parsed(t, "output x\noutput y\n"+words+"\nreturn\nl: return")
		ranges, constants := Ranges(p), Constants(p)
		for range 3000 {
			var low, high Env[Bounds]
			var lower, upper Env[Constant]
			low.Reached, high.Reached, lower.Reached, upper.Reached = true, true, true, true
			for i := range 2 {
				l := []int64{some(), some(), some(), some()}
				slices.Sort(l)
				low.Vals[i], high.Vals[i] = Bounds{l[1], l[2]}, Bounds{l[0], l[3]}
				if r.Intn(2) == 0 {
					low.Vals[i] = Bounds{l[1], l[1]}
				}
				lower.Vals[i].C, upper.Vals[i].C = l[1], l[1]
				if r.Intn(2) == 0 {
					upper.Vals[i] = Constant{Any: true}
				}
			}
			for _, to := range []int{3, 4} {
				for _, e := range ranges.Rules[to].Edges {
					if a, b := e.Make(low), e.Make(high); !ranges.Below(a, b) {
						t.Fatalf("%s makes %v of %v, but %v of %v", words, a, low, b, high)
					}
				}
				for _, e := range constants.Rules[to].Edges {
					if a, b := e.Make(lower), e.Make(upper); !constants.Below(a, b) {
						t.Fatalf("%s makes %v of %v, but %v of %v", words, a, lower, b, upper)
					}
				}
			}
		}
	}
}
