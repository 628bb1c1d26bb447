package search

import (
	"warrant/api"
	"warrant/rules"
	"warrant/source"
)

func findConstants(p source.Program, picks []int) []api.Node {
	nodes := make([]api.Node, len(p.Nodes))
	rank := 0
	rise(rules.Constants(p), picks, func(node int, old, next rules.Env[rules.Constant]) rules.Env[rules.Constant] {
		if old.Reached {
			noteLost(nodes[node].Vals, old, next, rank)
		} else {
			nodes[node] = api.Node{Reached: true, Rank: rank, Vals: firstVals(next, p.Vars)}
		}
		// Each change has a rank of its own: what came about before is all below it.
		rank++
		return next
	})
	return nodes
}

func firstVals(e rules.Env[rules.Constant], vars int) []api.Val {
	var vals []api.Val
	for _, v := range e.Vals[:vars] {
		if v.Any {
			vals = append(vals, api.Val{Kind: api.Any})
		} else {
			vals = append(vals, api.Val{Kind: api.Constant, Lo: v.C})
		}
	}
	return vals
}

// noteLost notes the constants that become any.
func noteLost(vals []api.Val, old, next rules.Env[rules.Constant], rank int) {
	for i := range vals {
		if next.Vals[i].Any && !old.Vals[i].Any {
			vals[i] = api.Val{Kind: api.Any, Early: true, First: old.Vals[i].C, Rank: rank}
		}
	}
}
