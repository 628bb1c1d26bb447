package rules

import (
	"slices"

	"warrant/facts"
	"warrant/source"
)

// expression is a op b. Two are the same if their words are: a variable has
// one name, and a number one numeral.
type expression struct {
	a  source.Operand
	op source.Op
	b  source.Operand
}

// expressionOf is false if the node has none, or one without a variable.
func expressionOf(node source.Node) (expression, bool) {
	e := expression{a: node.A, op: node.Op, b: node.B}
	return e, node.Kind == source.Compute && (e.a.IsVar || e.b.IsVar)
}

func (e expression) has(variable int) bool {
	return e.a.IsVar && e.a.Var == variable || e.b.IsVar && e.b.Var == variable
}

// expressions are in the order of their numbers.
func expressions(p source.Program) []expression {
	var known []expression
	for _, node := range p.Nodes {
		if e, ok := expressionOf(node); ok && !slices.Contains(known, e) {
			known = append(known, e)
		}
	}
	return known
}

func evaluates(node source.Node, known []expression) facts.Set {
	e, ok := expressionOf(node)
	if !ok {
		return facts.Set{}
	}
	return facts.Of(slices.Index(known, e))
}

func kills(node source.Node, known []expression) facts.Set {
	var killed facts.Set
	if !node.Defines() {
		return killed
	}
	for i, e := range known {
		if e.has(node.Var) {
			killed = facts.Union(killed, facts.Of(i))
		}
	}
	return killed
}
