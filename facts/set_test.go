package facts

import (
	"slices"
	"testing"
)

func TestAll(t *testing.T) {
	for _, l := range [][]int{nil, {0}, {63}, {64}, {67}, {0, 1, 2}, {0, 63, 64, 67}, {5, 62, 63, 64, 65}} {
		if got := slices.Collect(Of(l...).All()); !slices.Equal(got, l) {
			t.Errorf("%v, want %v", got, l)
		}
	}
	if got := slices.Collect(Of(64, 3, 64, 0).All()); !slices.Equal(got, []int{0, 3, 64}) {
		t.Errorf("in disorder, and twice: %v", got)
	}
	if got := slices.Collect(UpTo(Most).All()); len(got) != Most || got[0] != 0 || got[Most-1] != Most-1 {
		t.Errorf("all: %v", got)
	}
}

// Who goes through a set may leave it at any fact, and may go through it again.
func TestAllIsLeft(t *testing.T) {
	all := Of(0, 5, 63, 64, 66).All()
	for _, last := range []int{0, 5, 63, 64, 66} {
		var got []int
		for f := range all {
			got = append(got, f)
			if f == last {
				break
			}
		}
		if got[len(got)-1] != last {
			t.Errorf("left at %d: %v", last, got)
		}
	}
}

func TestUpTo(t *testing.T) {
	for _, n := range []int{0, 1, 63, 64, 65, 67, 68} {
		s := UpTo(n)
		for f := range Most {
			if s.Has(f) != (f < n) {
				t.Errorf("%d in all up to %d", f, n)
			}
		}
	}
}

func TestUnion(t *testing.T) {
	if Union() != (Set{}) || Union(Of(3, 64)) != Of(3, 64) {
		t.Error("of none and of one")
	}
	if got := Union(Of(1), Of(65), Set{}, Of(1, 2), Of(67)); got != Of(1, 2, 65, 67) {
		t.Errorf("of five: %v", slices.Collect(got.All()))
	}
}

func TestWithoutAndParts(t *testing.T) {
	s, u := Of(0, 2, 63, 64, 67), Of(2, 64, 66)
	if got := s.Without(u); got != Of(0, 63, 67) {
		t.Errorf("%v", slices.Collect(got.All()))
	}
	if s != Of(0, 2, 63, 64, 67) || u != Of(2, 64, 66) {
		t.Error("the sets themselves are changed")
	}
	for _, c := range []struct {
		a, b Set
		want bool
	}{
		{Set{}, Set{}, true}, {Set{}, s, true}, {s, Set{}, false}, {s, s, true}, {Of(2, 64), s, true}, {u, s, false}, {s, u, false}, {Of(67), s, true}, {Of(66), s, false}, {Of(0), s, true}, {Of(1), s, false},
	} {
		if got := c.a.IsPartOf(c.b); got != c.want {
			t.Errorf("%v of %v: %v", slices.Collect(c.a.All()), slices.Collect(c.b.All()), got)
		}
	}
}
