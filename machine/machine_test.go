package machine

import (
	"slices"
	"testing"

	"warrant/api"
	"warrant/source"
)

func parsed(t *testing.T, text string) source.Program {
	t.Helper()
	p, e := source.Parse(text)
	if e != api.OK {
		t.Fatalf("Parse(%q): %d", text, e)
	}
	return p
}

func TestEnds(t *testing.T) {
	for _, c := range []struct {
		text   string
		inputs []int64
		fuel   int
		end    int
		steps  int
	}{
		{"return", nil, 1, api.Returned, 1},
		{"return", nil, 0, api.NoFuel, 0},
		{"x = 1 / 0\nreturn", nil, 1, api.Trapped, 1},
		{"x = 1 / 0\nreturn", nil, 0, api.NoFuel, 0},
		{"x = 1 / y\nreturn", nil, 9, api.Trapped, 1},
		{"x = input\nreturn", nil, 1, api.Starved, 1},
		{"x = input\nreturn", nil, 0, api.NoFuel, 0},
		{"x = input\nreturn", []int64{5}, 1, api.NoFuel, 1},
		{"x = input\nreturn", []int64{5}, 2, api.Returned, 2},
		{"x = input\nx = input\nreturn", []int64{5}, 9, api.Starved, 2},
		{"l: goto l", nil, 2000, api.NoFuel, 2000},
	} {
		r := Run(parsed(t, c.text), c.inputs, c.fuel)
		if r.End != c.end || len(r.Steps) != c.steps {
			t.Errorf("%q with %v, fuel %d: end %d after %d steps, want %d after %d", c.text, c.inputs, c.fuel, r.End, len(r.Steps), c.end, c.steps)
		}
	}
}

// A node that traps or starves puts nothing out, and leaves what was put out ahead of it.
func TestOutputsAheadOfAnEnd(t *testing.T) {
	for _, last := range []string{"x = x / 0", "x = input", "l: goto l"} {
		r := Run(parsed(t, "output 1\nx = 2\noutput x\n"+last+"\nreturn"), nil, 5)
		if !slices.Equal(r.Outputs, []int64{1, 2}) {
			t.Errorf("%q: outputs %v", last, r.Outputs)
		}
	}
}

func TestValuesAreThoseAheadOfTheNode(t *testing.T) {
	r := Run(parsed(t, "x = 3\nx = x + x\ny = x\nreturn"), nil, 9)
	want := [][]int64{{0, 0}, {3, 0}, {6, 0}, {6, 6}}
	for i, s := range r.Steps {
		if s.Node != i || !slices.Equal(s.Vals, want[i]) {
			t.Errorf("step %d: node %d, %v, want %v", i, s.Node, s.Vals, want[i])
		}
	}
}
