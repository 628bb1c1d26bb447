package source

import (
	"slices"

	"warrant/api"
)

// link finds the nodes that the labels stand for and lays the edges; it is false if the nodes make no program.
func link(nodes []Node) bool {
	if len(nodes) == 0 || len(nodes) > api.MaxNodes {
		return false
	}
	places, ok := placeLabels(nodes)
	if !ok {
		return false
	}
	for i, node := range nodes {
		goal, found := places[node.goal]
		if node.namesLabel() && !found {
			return false
		}
		nodes[i].Edges = edges(node.Kind, goal, i+1)
	}
	// Only the last node's next one is no node.
	return !slices.Contains(nodes[len(nodes)-1].Edges, len(nodes))
}

// placeLabels is false if a label stands twice.
func placeLabels(nodes []Node) (map[string]int, bool) {
	places := map[string]int{}
	for i, node := range nodes {
		if node.Label == "" {
			continue
		}
		if _, twice := places[node.Label]; twice {
			return nil, false
		}
		places[node.Label] = i
	}
	return places, true
}

func edges(kind Kind, goal, next int) []int {
	switch kind {
	case If:
		return []int{goal, next}
	case Goto:
		return []int{goal}
	case Return:
		return nil
	}
	return []int{next}
}
