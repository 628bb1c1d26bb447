package search

import (
	"warrant/api"
	"warrant/facts"
	"warrant/rules"
	"warrant/source"
)

func findSets(p source.Program, problem int, picks []int) []api.Node {
	system, _ := rules.Sets(p, problem)
	ranks := make([][facts.Most]int, len(p.Nodes)) // by facts
	rank := 0
	held := rise(system, picks, func(node int, old, next facts.Set) facts.Set {
		for f := range next.Without(old).All() {
			ranks[node][f] = rank
		}
		// Each change has a rank of its own: what came about before is all below it.
		rank++
		return next
	})
	nodes := make([]api.Node, len(held))
	for i, set := range held {
		for f := range set.All() {
			nodes[i].Facts = append(nodes[i].Facts, f)
			nodes[i].Ranks = append(nodes[i].Ranks, ranks[i][f])
		}
	}
	return nodes
}
