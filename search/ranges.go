package search

import (
	"math"

	"warrant/api"
	"warrant/rules"
	"warrant/source"
)

func findRanges(p source.Program, t api.Tuning) []api.Node {
	system := rules.Ranges(p)
	held := rise(system, t.Picks, func(node int, old, next rules.Env[rules.Bounds]) rules.Env[rules.Bounds] {
		if old.Reached && isHead(system, node) {
			return widened(old, next, t.Thresholds)
		}
		return next
	})
	for range t.Narrow {
		narrow(system, held)
	}
	nodes := make([]api.Node, len(held))
	for i, e := range held {
		nodes[i] = rangesNode(e, p.Vars)
	}
	return nodes
}

// isHead reports whether something comes to the node from itself or from a
// later one. There is such a node in every loop, so that none rises for ever
// if these are widened.
func isHead(s rules.System[rules.Env[rules.Bounds]], node int) bool {
	for _, e := range s.Rules[node].Edges {
		if e.From >= node {
			return true
		}
	}
	return false
}

// widened lets the bounds that move on from old go as far as the thresholds
// allow: each can do so just once for each threshold, and once more.
func widened(old, next rules.Env[rules.Bounds], thresholds []int64) rules.Env[rules.Bounds] {
	for i, was := range old.Vals {
		v := &next.Vals[i]
		if v.Lo < was.Lo {
			v.Lo = floor(v.Lo, thresholds)
		}
		if v.Hi > was.Hi {
			v.Hi = ceiling(v.Hi, thresholds)
		}
	}
	return next
}

// floor is the greatest threshold that is not above n, or the least number.
func floor(n int64, thresholds []int64) int64 {
	lo := int64(math.MinInt64)
	for _, t := range thresholds {
		if t <= n {
			lo = max(lo, t)
		}
	}
	return lo
}

// ceiling is the least threshold that is not below n, or the greatest number.
func ceiling(n int64, thresholds []int64) int64 {
	hi := int64(math.MaxInt64)
	for _, t := range thresholds {
		if t >= n {
			hi = min(hi, t)
		}
	}
	return hi
}

// narrow takes at each node what the rules say for what is held. That is sound
// still: what is held was, so that they say no more than it, and they say no
// more of other nodes if one holds less.
func narrow(s rules.System[rules.Env[rules.Bounds]], held []rules.Env[rules.Bounds]) {
	for node := range held {
		held[node] = s.Says(node, func(from int) rules.Env[rules.Bounds] { return held[from] })
	}
}

func rangesNode(e rules.Env[rules.Bounds], vars int) api.Node {
	if !e.Reached {
		return api.Node{}
	}
	n := api.Node{Reached: true}
	for _, v := range e.Vals[:vars] {
		n.Vals = append(n.Vals, api.Val{Kind: api.Range, Lo: v.Lo, Hi: v.Hi})
	}
	return n
}
