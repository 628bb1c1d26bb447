// Package search: looks for what satisfies the rules. It may go any way: a
// checker, not the way, tells that what it found is right.
package search

import (
	"warrant/api"
	"warrant/facts"
	"warrant/rules"
	"warrant/source"
)

// Find looks for what the rules of a problem say of p, and writes down how it
// came about: the least there is, but of Ranges something sound.
func Find(p source.Program, problem int, t api.Tuning) api.Cert {
	switch problem {
	case api.Constants:
		return api.Cert{Problem: problem, Grade: api.Least, Nodes: findConstants(p, t.Picks)}
	case api.Ranges:
		return api.Cert{Problem: problem, Grade: api.Sound, Nodes: findRanges(p, t)}
	}
	return api.Cert{Problem: problem, Grade: api.Least, Nodes: findSets(p, problem, t.Picks)}
}

// rise lets what the nodes hold rise from the lowest, T's zero value, until
// the rules say no more of any node than it holds. Each time that they do say
// more, change is told what the node held and that joined with what they say,
// and answers what it shall hold: this, or something above it. It must see to
// it that nothing rises for ever.
func rise[T any](s rules.System[T], picks []int, change func(node int, old, next T) T) []T {
	held := make([]T, len(s.Rules))
	hold := func(node int) T { return held[node] }
	readers := readersOf(s)
	a := agenda{waiting: facts.UpTo(len(s.Rules)), picks: picks}
	for node := range a.nodes() {
		said := s.Says(node, hold)
		if s.Below(said, held[node]) {
			continue
		}
		held[node] = change(node, held[node], s.Join(held[node], said))
		a.add(readers[node])
	}
	return held
}

// readersOf tells of each node the set of those that something comes to from it.
func readersOf[T any](s rules.System[T]) []facts.Set {
	readers := make([]facts.Set, len(s.Rules))
	for node, rule := range s.Rules {
		for _, e := range rule.Edges {
			readers[e.From] = facts.Union(readers[e.From], facts.Of(node))
		}
	}
	return readers
}
