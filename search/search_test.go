package search

import (
	"math"
	"reflect"
	"slices"
	"testing"

	"warrant/api"
	"warrant/facts"
	"warrant/rules"
	"warrant/source"
)

func parsed(t *testing.T, text string) source.Program {
	t.Helper()
	p, e := source.Parse(text)
	if e != api.OK {
		t.Fatalf("%q: %d", text, e)
	}
	return p
}

// The nodes that wait come in the order that the picks tell, and then from the first on.
func TestPicks(t *testing.T) {
	for _, c := range []struct {
		picks []int
		want  []int
	}{
		{nil, []int{0, 1, 2, 3, 4}}, {[]int{0}, []int{0, 1, 2, 3, 4}}, {[]int{3}, []int{3, 0, 1, 2, 4}}, {[]int{4, 3, 2, 1, 0}, []int{4, 3, 2, 1, 0}}, {[]int{5, 5}, []int{0, 2, 1, 3, 4}},
		{[]int{-1, -1, -1}, []int{4, 3, 2, 0, 1}}, {[]int{-5, -6}, []int{0, 3, 1, 2, 4}}, {[]int{math.MaxInt, math.MinInt}, []int{2, 0, 1, 3, 4}}, {slices.Repeat([]int{2}, 200), []int{2, 3, 4, 0, 1}},
	} {
		a := agenda{waiting: facts.UpTo(5), picks: c.picks}
		if got := slices.Collect(a.nodes()); !slices.Equal(got, c.want) {
			t.Errorf("by %.9v: %v, want %v", c.picks, got, c.want)
		}
	}
}

// What is added meanwhile comes too, each once, also the node that is just looked at.
func TestAddedMeanwhile(t *testing.T) {
	a := agenda{waiting: facts.Of(1, 3)}
	var got []int
	for node := range a.nodes() {
		got = append(got, node)
		if len(got) == 1 {
			a.add(facts.Of(0, 1, 3, 59))
		}
	}
	if !slices.Equal(got, []int{1, 0, 1, 3, 59}) {
		t.Errorf("%v", got)
	}
	none := agenda{picks: []int{1}}
	for node := range none.nodes() {
		t.Errorf("%d, of none", node)
	}
	left := agenda{waiting: facts.UpTo(3)}
	for range left.nodes() {
		break
	}
	if got := slices.Collect(left.nodes()); !slices.Equal(got, []int{1, 2}) {
		t.Errorf("left and gone on with: %v", got)
	}
}

func TestFloorAndCeiling(t *testing.T) {
	const least, greatest = math.MinInt64, math.MaxInt64
	thresholds := []int64{100, -5, 0, 100, 10, -5}
	for _, c := range []struct {
		n, floor, ceiling int64
	}{
		{0, 0, 0}, {1, 0, 10}, {-1, -5, 0}, {10, 10, 10}, {9, 0, 10}, {11, 10, 100}, {100, 100, 100}, {101, 100, greatest}, {-5, -5, -5}, {-6, least, -5}, {least, least, -5}, {greatest, 100, greatest},
	} {
		if lo, hi := floor(c.n, thresholds), ceiling(c.n, thresholds); lo != c.floor || hi != c.ceiling {
			t.Errorf("%d: %d and %d, want %d and %d", c.n, lo, hi, c.floor, c.ceiling)
		}
		if lo, hi := floor(c.n, nil), ceiling(c.n, nil); lo != least || hi != greatest {
			t.Errorf("%d, without thresholds: %d and %d", c.n, lo, hi)
		}
		if lo, hi := floor(c.n, []int64{least, greatest}), ceiling(c.n, []int64{greatest, least}); c.n != greatest && lo != least || c.n != least && hi != greatest {
			t.Errorf("%d, with the extremes: %d and %d", c.n, lo, hi)
		}
	}
}

// Only bounds that move are widened.
func TestWidened(t *testing.T) {
	old, next := rules.Env[rules.Bounds]{Reached: true}, rules.Env[rules.Bounds]{Reached: true}
	old.Vals = [api.MaxVars]rules.Bounds{{Lo: 1, Hi: 2}, {Lo: 1, Hi: 2}, {Lo: 1, Hi: 2}, {Lo: 1, Hi: 2}, {Lo: 3, Hi: 99}}
	next.Vals = [api.MaxVars]rules.Bounds{{Lo: 1, Hi: 2}, {Lo: 0, Hi: 2}, {Lo: 1, Hi: 3}, {Lo: -30, Hi: 30}, {Lo: 3, Hi: 100}}
	want := next
	want.Vals = [api.MaxVars]rules.Bounds{{Lo: 1, Hi: 2}, {Lo: -7, Hi: 2}, {Lo: 1, Hi: 20}, {Lo: math.MinInt64, Hi: math.MaxInt64}, {Lo: 3, Hi: math.MaxInt64}}
	if got := widened(old, next, []int64{20, -7}); got != want {
		t.Errorf("%v, want %v", got, want)
	}
}

// Every loop has a head; where edges only go on, there is none.
func TestHeads(t *testing.T) {
	for program, want := range map[string][]int{
		"x = 1\nif x < 2 goto l\nx = 2\nl: return": {},
		"l: goto l": {0},
		"x = 1\nl: x = x + 1\nif x < 9 goto l\nreturn":                              {1},
		"goto m\nl: return\nm: if 1 < 2 goto l\ngoto n\nn: if 1 < 3 goto m\ngoto n": {1, 2, 4},
	} {
		s := rules.Ranges(parsed(t, program))
		got := []int{}
		for node := range s.Rules {
			if isHead(s, node) {
				got = append(got, node)
			}
		}
		if !slices.Equal(got, want) {
			t.Errorf("%q: %v, want %v", program, got, want)
		}
	}
}

// Who is to be looked at again: of Live and Lazy the nodes ahead.
func TestReaders(t *testing.T) {
	p := parsed(t, "l: x = x + 1\nif x < 9 goto l\nreturn")
	for problem, want := range map[int][]facts.Set{
		api.Reaching: {facts.Of(1), facts.Of(0, 2), {}}, api.Live: {facts.Of(1), facts.Of(0), facts.Of(1)},
	} {
		s, _ := rules.Sets(p, problem)
		if got := readersOf(s); !reflect.DeepEqual(got, want) {
			t.Errorf("problem %d: %v, want %v", problem, got, want)
		}
	}
}

// Ranks tell the way: with other picks facts come about in another order.
func TestRanksTellTheWay(t *testing.T) {
	p := parsed(t, "x = 1\ny = 2\nreturn")
	for _, c := range []struct {
		picks []int
		want  [][]int
	}{
		{nil, [][]int{{0, 0}, {1, 1}, {2, 2}}}, {[]int{2}, [][]int{{1, 1}, {2, 2}, {3, 0}}}, {[]int{1, 1}, [][]int{{2, 2}, {3, 0}, {1, 1}}},
	} {
		found := Find(p, api.Reaching, api.Tuning{Picks: c.picks})
		var got [][]int
		for _, n := range found.Nodes {
			got = append(got, n.Ranks)
		}
		if !reflect.DeepEqual(got, c.want) {
			t.Errorf("by %v: %v, want %v", c.picks, got, c.want)
		}
	}
}

// A constant that is lost has its first value and the rank at which it is lost.
func TestConstantsLost(t *testing.T) {
	p := parsed(t, "y = input\nl: x = x + 1\nif x < y goto l\nreturn")
	constant := func(n int64) api.Val { return api.Val{Kind: api.Constant, Lo: n} }
	early := func(n int64, rank int) api.Val {
		return api.Val{Kind: api.Any, Early: true, First: n, Rank: rank}
	}
	lost := api.Val{Kind: api.Any}
	want := []api.Node{
		{Reached: true, Rank: 0, Vals: []api.Val{constant(0), constant(0)}}, {Reached: true, Rank: 1, Vals: []api.Val{lost, early(0, 3)}},
		{Reached: true, Rank: 2, Vals: []api.Val{lost, early(1, 4)}}, {Reached: true, Rank: 5, Vals: []api.Val{lost, lost}},
	}
	if got := Find(p, api.Constants, api.Tuning{}); got.Problem != api.Constants || got.Grade != api.Least || !reflect.DeepEqual(got.Nodes, want) {
		t.Errorf("%+v, want %+v", got, want)
	}
}

// How thresholds and narrowing are followed: what x is at each node.
func TestRangesByAdvice(t *testing.T) {
	const least, greatest = math.MinInt64, math.MaxInt64
	up := "l: if 10 <= x goto d\nx = x + 1\ngoto l\nd: return"
	late := "x = 0\nl: x = x + 1\nif x < 10 goto l\nreturn"
	down := "x = 50\nl: if x < 7 goto d\nx = x - 3\ngoto l\nd: return"
	ever := "l: x = x + 1\ngoto l"
	for _, c := range []struct {
		program string
		tuning  api.Tuning
		want    []rules.Bounds
	}{
		{up, api.Tuning{}, []rules.Bounds{{Lo: 0, Hi: greatest}, {Lo: 0, Hi: 9}, {Lo: 1, Hi: 10}, {Lo: 10, Hi: greatest}}},
		{up, api.Tuning{Narrow: 1}, []rules.Bounds{{Lo: 0, Hi: 10}, {Lo: 0, Hi: 9}, {Lo: 1, Hi: 10}, {Lo: 10, Hi: 10}}},
		{up, api.Tuning{Thresholds: []int64{100, 4}}, []rules.Bounds{{Lo: 0, Hi: 100}, {Lo: 0, Hi: 9}, {Lo: 1, Hi: 10}, {Lo: 10, Hi: 100}}},
		{up, api.Tuning{Thresholds: []int64{10}}, []rules.Bounds{{Lo: 0, Hi: 10}, {Lo: 0, Hi: 9}, {Lo: 1, Hi: 10}, {Lo: 10, Hi: 10}}},
		{up, api.Tuning{Thresholds: []int64{10, 10, 0, -4}, Narrow: 8}, []rules.Bounds{{Lo: 0, Hi: 10}, {Lo: 0, Hi: 9}, {Lo: 1, Hi: 10}, {Lo: 10, Hi: 10}}},
		{late, api.Tuning{}, []rules.Bounds{{Lo: 0, Hi: 0}, {Lo: least, Hi: greatest}, {Lo: least, Hi: greatest}, {Lo: 10, Hi: greatest}}},
		{late, api.Tuning{Narrow: 1}, []rules.Bounds{{Lo: 0, Hi: 0}, {Lo: least, Hi: 9}, {Lo: least + 1, Hi: 10}, {Lo: 10, Hi: 10}}},
		{late, api.Tuning{Narrow: 8}, []rules.Bounds{{Lo: 0, Hi: 0}, {Lo: least + 7, Hi: 9}, {Lo: least + 8, Hi: 10}, {Lo: 10, Hi: 10}}},
		{late, api.Tuning{Thresholds: []int64{10}}, []rules.Bounds{{Lo: 0, Hi: 0}, {Lo: 0, Hi: 10}, {Lo: 1, Hi: 11}, {Lo: 10, Hi: 11}}},
		{late, api.Tuning{Thresholds: []int64{10}, Narrow: 1}, []rules.Bounds{{Lo: 0, Hi: 0}, {Lo: 0, Hi: 9}, {Lo: 1, Hi: 10}, {Lo: 10, Hi: 10}}},
		{down, api.Tuning{}, []rules.Bounds{{Lo: 0, Hi: 0}, {Lo: least, Hi: 50}, {Lo: 7, Hi: 50}, {Lo: 4, Hi: 47}, {Lo: least, Hi: 6}}},
		{down, api.Tuning{Narrow: 2}, []rules.Bounds{{Lo: 0, Hi: 0}, {Lo: 4, Hi: 50}, {Lo: 7, Hi: 50}, {Lo: 4, Hi: 47}, {Lo: 4, Hi: 6}}},
		{down, api.Tuning{Thresholds: []int64{greatest, 0, least}}, []rules.Bounds{{Lo: 0, Hi: 0}, {Lo: 0, Hi: 50}, {Lo: 7, Hi: 50}, {Lo: 4, Hi: 47}, {Lo: 0, Hi: 6}}},
		{ever, api.Tuning{Thresholds: []int64{5, 8}, Narrow: 8}, []rules.Bounds{{Lo: least, Hi: greatest}, {Lo: least, Hi: greatest}}},
	} {
		found := Find(parsed(t, c.program), api.Ranges, c.tuning)
		var got []rules.Bounds
		for _, n := range found.Nodes {
			got = append(got, rules.Bounds{Lo: n.Vals[0].Lo, Hi: n.Vals[0].Hi})
		}
		if found.Problem != api.Ranges || found.Grade != api.Sound || !slices.Equal(got, c.want) {
			t.Errorf("%q by %+v: %v, want %v", c.program, c.tuning, got, c.want)
		}
	}
}

// A branch that only widening seems to reach is none again when ranges are narrowed.
func TestNarrowedToNone(t *testing.T) {
	p := parsed(t, "l: if 10 <= x goto d\nx = x + 1\ngoto l\nd: if 10 < x goto e\nreturn\ne: output x\nreturn")
	for narrow, want := range []bool{true, false, false} {
		found := Find(p, api.Ranges, api.Tuning{Narrow: narrow})
		if found.Nodes[5].Reached != want || found.Nodes[6].Reached != want || !found.Nodes[4].Reached {
			t.Errorf("narrowed %d times: %+v", narrow, found.Nodes)
		}
	}
}
