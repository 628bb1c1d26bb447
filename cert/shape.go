// Package cert: certificates, and their texts.
package cert

import "warrant/api"

// shape is what a certificate's problem and grade ask of its nodes.
type shape struct {
	problem, grade int
}

func (s shape) isKnown() bool {
	if s.problem < api.Reaching || s.problem > api.Ranges {
		return false
	}
	return s.grade == api.Sound || s.grade == api.Least && s.problem != api.Ranges
}

// hasSets tells problems whose nodes have sets of facts from those with environments.
func (s shape) hasSets() bool { return s.problem <= api.Lazy }

func (s shape) isLeast() bool { return s.grade == api.Least }

// isCert reports whether c is a certificate. The length of its text is not asked here.
func isCert(c api.Cert) bool {
	s := shape{c.Problem, c.Grade}
	if !s.isKnown() || len(c.Nodes) > api.MaxNodes {
		return false
	}
	for _, n := range c.Nodes {
		if !s.isNode(n) {
			return false
		}
	}
	return true
}

func (s shape) isNode(n api.Node) bool {
	if s.hasSets() {
		return s.isSet(n)
	}
	if !n.Reached {
		return isBare(n)
	}
	return s.isEnvironment(n)
}

func (s shape) isSet(n api.Node) bool {
	if n.Reached || n.Rank != 0 || len(n.Vals) != 0 {
		return false
	}
	return areFacts(n.Facts) && s.areRanks(n.Ranks, len(n.Facts))
}

func areFacts(facts []int) bool {
	floor := 0
	for _, f := range facts {
		if f < floor || f > api.MaxRank {
			return false
		}
		floor = f + 1
	}
	return true
}

func (s shape) areRanks(ranks []int, facts int) bool {
	if !s.isLeast() {
		return len(ranks) == 0
	}
	if len(ranks) != facts {
		return false
	}
	for _, r := range ranks {
		if r < 0 || r > api.MaxRank {
			return false
		}
	}
	return true
}

func isBare(n api.Node) bool {
	return !n.Reached && n.Rank == 0 && len(n.Facts) == 0 && len(n.Ranks) == 0 && len(n.Vals) == 0
}

func (s shape) isEnvironment(n api.Node) bool {
	if len(n.Facts) != 0 || len(n.Ranks) != 0 || len(n.Vals) > api.MaxVars {
		return false
	}
	if n.Rank < 0 || n.Rank > api.MaxRank || !s.isLeast() && n.Rank != 0 {
		return false
	}
	for _, v := range n.Vals {
		if !s.isVal(v, n.Rank) {
			return false
		}
	}
	return true
}

// isVal holds v against a value that has just the fields that v's kind gives a meaning.
func (s shape) isVal(v api.Val, nodeRank int) bool {
	if s.problem == api.Ranges {
		return v == api.Val{Kind: api.Range, Lo: v.Lo, Hi: v.Hi} && v.Lo <= v.Hi
	}
	if v.Early {
		return s.isEarly(v, nodeRank)
	}
	return v == api.Val{Kind: api.Constant, Lo: v.Lo} || v == api.Val{Kind: api.Any}
}

func (s shape) isEarly(v api.Val, nodeRank int) bool {
	if !s.isLeast() || v.Rank <= nodeRank || v.Rank > api.MaxRank {
		return false
	}
	return v == api.Val{Kind: api.Any, Early: true, First: v.First, Rank: v.Rank}
}
