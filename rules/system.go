// Package rules: what the problems say of a program's nodes. A thing is what
// a node has: a set of facts, or an environment.
package rules

// Edge brings a thing from a node. Of Live and Lazy it leads against the program's edge.
type Edge[T any] struct {
	From int
	Make func(T) T
}

// Rule is what is said of one node: Start in any case, and what comes over its edges.
type Rule[T any] struct {
	Start T
	Edges []Edge[T]
}

// System has a rule for each node, and says how things are joined and ordered.
type System[T any] struct {
	Rules []Rule[T]
	Join  func(things ...T) T
	Below func(low, high T) bool
}

// Says is what the rules say of a node if the nodes have what held tells.
func (s System[T]) Says(node int, held func(node int) T) T {
	rule := s.Rules[node]
	things := []T{rule.Start}
	for _, e := range rule.Edges {
		things = append(things, e.Make(held(e.From)))
	}
	return s.Join(things...)
}
