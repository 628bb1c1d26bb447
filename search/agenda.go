package search

import (
	"iter"
	"slices"

	"warrant/facts"
)

// agenda has the nodes that wait to be looked at. There are fewer nodes than
// facts, so that a set of facts does for their numbers.
type agenda struct {
	waiting facts.Set
	picks   []int
}

func (a *agenda) add(nodes facts.Set) { a.waiting = facts.Union(a.waiting, nodes) }

// nodes goes through the nodes that wait, those too that are added meanwhile.
func (a *agenda) nodes() iter.Seq[int] {
	return func(yield func(int) bool) {
		for a.waiting != (facts.Set{}) {
			if !yield(a.take()) {
				return
			}
		}
	}
}

func (a *agenda) take() int {
	waiting := slices.Collect(a.waiting.All())
	node := waiting[a.place(len(waiting))]
	a.waiting = a.waiting.Without(facts.Of(node))
	return node
}

// place is the next pick, brought to 0 to count - 1. Without one it is 0: from
// the first node on, most of what an edge brings is there when it is asked for.
func (a *agenda) place(count int) int {
	if len(a.picks) == 0 {
		return 0
	}
	place := a.picks[0] % count
	a.picks = a.picks[1:]
	if place < 0 {
		place += count
	}
	return place
}
