package checker

import (
	"warrant/api"
	"warrant/facts"
	"warrant/rules"
	"warrant/source"
)

func checkSets(p source.Program, c api.Cert) api.Errno {
	system, count := rules.Sets(p, c.Problem)
	if !areBelow(c.Nodes, count) {
		return api.ErrSize
	}
	if !isSound(system, sets(c.Nodes)) {
		return api.ErrSound
	}
	if c.Grade == api.Least && !factsRise(system, c.Nodes) {
		return api.ErrLeast
	}
	return api.OK
}

// areBelow reports whether all facts are below count. A node's last fact is its greatest.
func areBelow(nodes []api.Node, count int) bool {
	for _, n := range nodes {
		if last := len(n.Facts) - 1; last >= 0 && n.Facts[last] >= count {
			return false
		}
	}
	return true
}

func sets(nodes []api.Node) []facts.Set {
	l := make([]facts.Set, len(nodes))
	for i, n := range nodes {
		l[i] = facts.Of(n.Facts...)
	}
	return l
}

// ranked is a set whose facts have ranks.
type ranked struct {
	set   facts.Set
	ranks [facts.Most]int // by facts
}

func rankedSets(nodes []api.Node) []ranked {
	l := make([]ranked, len(nodes))
	for i, n := range nodes {
		l[i].set = facts.Of(n.Facts...)
		for j, f := range n.Facts {
			l[i].ranks[f] = n.Ranks[j]
		}
	}
	return l
}

// below are the facts with ranks below rank.
func (r ranked) below(rank int) facts.Set {
	var low facts.Set
	for f := range r.set.All() {
		if r.ranks[f] < rank {
			low = facts.Union(low, facts.Of(f))
		}
	}
	return low
}

// factsRise reports whether the rules put each fact where it is by facts with lower ranks.
func factsRise(system rules.System[facts.Set], nodes []api.Node) bool {
	held := rankedSets(nodes)
	for node, r := range held {
		for f := range r.set.All() {
			rank := r.ranks[f]
			said := system.Says(node, func(from int) facts.Set { return held[from].below(rank) })
			if !said.Has(f) {
				return false
			}
		}
	}
	return true
}
