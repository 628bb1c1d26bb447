package rules

import (
	"warrant/api"
	"warrant/facts"
	"warrant/source"
)

// Sets are the rules of one of the problems 1 to 4, and the count of its facts.
func Sets(p source.Program, problem int) (System[facts.Set], int) {
	switch problem {
	case api.Reaching:
		return reaching(p)
	case api.Live:
		return live(p)
	case api.Lacking:
		return lacking(p)
	}
	return lazy(p)
}

// effect is what a node does to a set that comes by it: facts are dropped, then others added.
type effect struct {
	drop, add facts.Set
}

func (e effect) on(s facts.Set) facts.Set {
	return facts.Union(s.Without(e.drop), e.add)
}

func newSets(p source.Program) System[facts.Set] {
	return System[facts.Set]{
		Rules: make([]Rule[facts.Set], len(p.Nodes)),
		Join:  facts.Union,
		Below: facts.Set.IsPartOf,
	}
}

// forward lays the node's effect on what goes from it along its edges.
func forward(s System[facts.Set], p source.Program, node int, e effect) {
	for _, to := range p.Nodes[node].Edges {
		s.Rules[to].Edges = append(s.Rules[to].Edges, Edge[facts.Set]{From: node, Make: e.on})
	}
}

// backward lays the node's effect on what comes to it against its edges.
func backward(s System[facts.Set], p source.Program, node int, e effect) {
	for _, from := range p.Nodes[node].Edges {
		s.Rules[node].Edges = append(s.Rules[node].Edges, Edge[facts.Set]{From: from, Make: e.on})
	}
}

func reaching(p source.Program) (System[facts.Set], int) {
	s := newSets(p)
	s.Rules[0].Start = facts.UpTo(p.Vars)
	own, ofVar, count := definitions(p)
	for i, node := range p.Nodes {
		var e effect
		if node.Defines() {
			e = effect{drop: ofVar[node.Var], add: own[i]}
		}
		forward(s, p, i, e)
	}
	return s, count
}

// definitions tells each node's own definition, those of each variable with
// its beginning value, and the count of all.
func definitions(p source.Program) (own, ofVar []facts.Set, count int) {
	own = make([]facts.Set, len(p.Nodes))
	for v := range p.Vars {
		ofVar = append(ofVar, facts.Of(v))
	}
	count = p.Vars
	for i, node := range p.Nodes {
		if node.Defines() {
			own[i] = facts.Of(count)
			ofVar[node.Var] = facts.Union(ofVar[node.Var], own[i])
			count++
		}
	}
	return own, ofVar, count
}

func live(p source.Program) (System[facts.Set], int) {
	s := newSets(p)
	for i, node := range p.Nodes {
		s.Rules[i].Start = uses(node)
		var e effect
		if node.Defines() {
			e.drop = facts.Of(node.Var)
		}
		backward(s, p, i, e)
	}
	return s, p.Vars
}

func uses(node source.Node) facts.Set {
	var used facts.Set
	for _, o := range node.Operands() {
		if o.IsVar {
			used = facts.Union(used, facts.Of(o.Var))
		}
	}
	return used
}

func lacking(p source.Program) (System[facts.Set], int) {
	s := newSets(p)
	known := expressions(p)
	s.Rules[0].Start = facts.UpTo(len(known))
	for i, node := range p.Nodes {
		forward(s, p, i, effect{drop: evaluates(node, known), add: kills(node, known)})
	}
	return s, len(known)
}

func lazy(p source.Program) (System[facts.Set], int) {
	s := newSets(p)
	known := expressions(p)
	for i, node := range p.Nodes {
		evaluated := evaluates(node, known)
		s.Rules[i].Start = kills(node, known).Without(evaluated)
		if node.Kind == source.Return {
			s.Rules[i].Start = facts.UpTo(len(known))
		}
		backward(s, p, i, effect{drop: evaluated})
	}
	return s, len(known)
}
