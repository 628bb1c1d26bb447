package checker

import (
	"warrant/api"
	"warrant/rules"
	"warrant/source"
)

func checkRanges(p source.Program, c api.Cert) api.Errno {
	if !haveValues(c.Nodes, p.Vars) {
		return api.ErrSize
	}
	held := make([]rules.Env[rules.Bounds], len(c.Nodes))
	for i, n := range c.Nodes {
		held[i] = ranges(n)
	}
	if !isSound(rules.Ranges(p), held) {
		return api.ErrSound
	}
	return api.OK
}

func ranges(n api.Node) rules.Env[rules.Bounds] {
	e := rules.Env[rules.Bounds]{Reached: n.Reached}
	for i, v := range n.Vals {
		e.Vals[i] = rules.Bounds{Lo: v.Lo, Hi: v.Hi}
	}
	return e
}

// atLast is a rank that all others are below.
const atLast = api.MaxRank + 1

func checkConstants(p source.Program, c api.Cert) api.Errno {
	if !haveValues(c.Nodes, p.Vars) {
		return api.ErrSize
	}
	system := rules.Constants(p)
	held := make([]rules.Env[rules.Constant], len(c.Nodes))
	for i, n := range c.Nodes {
		held[i] = constants(n, atLast)
	}
	if !isSound(system, held) {
		return api.ErrSound
	}
	if c.Grade == api.Least && !constantsRise(system, c.Nodes) {
		return api.ErrLeast
	}
	return api.OK
}

// constants is the node's environment at a rank.
func constants(n api.Node, rank int) rules.Env[rules.Constant] {
	if !n.Reached || n.Rank >= rank {
		return rules.Env[rules.Constant]{}
	}
	e := rules.Env[rules.Constant]{Reached: true}
	for i, v := range n.Vals {
		e.Vals[i] = constant(v, rank)
	}
	return e
}

func constant(v api.Val, rank int) rules.Constant {
	switch {
	case v.Kind == api.Constant:
		return rules.Constant{C: v.Lo}
	case v.Early && v.Rank >= rank:
		return rules.Constant{C: v.First}
	}
	return rules.Constant{Any: true}
}

// constantsRise reports whether the ranks of all nodes and of their early values are just.
func constantsRise(system rules.System[rules.Env[rules.Constant]], nodes []api.Node) bool {
	for i, n := range nodes {
		said := func(rank int) rules.Env[rules.Constant] {
			return system.Says(i, func(from int) rules.Env[rules.Constant] { return constants(nodes[from], rank) })
		}
		// Early ranks are above the node's: one above it, these values are their first still.
		// A node that is not reached is none at any rank, and so below whatever is said.
		first := constants(n, n.Rank+1)
		if !system.Below(first, said(n.Rank)) || !earlyRise(n.Vals, said) {
			return false
		}
	}
	return true
}

// earlyRise reports whether the rules say any of each early value, at its rank.
func earlyRise(vals []api.Val, said func(rank int) rules.Env[rules.Constant]) bool {
	for i, v := range vals {
		if v.Early && !said(v.Rank).Vals[i].Any {
			return false
		}
	}
	return true
}
