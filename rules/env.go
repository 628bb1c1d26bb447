package rules

import (
	"warrant/api"
	"warrant/source"
)

// Env is an environment: none if it is not Reached, and then all else is zero.
// So are the values behind those of the program's variables, in every one, so
// that they may be joined and held against each other with the rest.
type Env[V any] struct {
	Reached bool
	Vals    [api.MaxVars]V
}

// domain is what a problem says of single values. Where something is false, no run goes on.
type domain[V any] interface {
	constant(c int64) V
	input() V
	compute(op source.Op, a, b V) (V, bool)
	// assume is what is left of a and b on the edge where the test is so, or is not.
	assume(test source.Test, so bool, a, b V) (V, V, bool)
	meet(a, b V) (V, bool)
	join(a, b V) V
	below(low, high V) bool
}

// environments are the rules of a problem with environments. The zero value
// of V must be the constant 0.
func environments[V any](p source.Program, d domain[V]) System[Env[V]] {
	s := System[Env[V]]{
		Rules: make([]Rule[Env[V]], len(p.Nodes)),
		Join:  func(envs ...Env[V]) Env[V] { return join(d, envs...) },
		Below: func(low, high Env[V]) bool { return below(d, low, high) },
	}
	s.Rules[0].Start = Env[V]{Reached: true}
	for from, node := range p.Nodes {
		for i, to := range node.Edges {
			e := Edge[Env[V]]{From: from, Make: edge(d, node, i == 0)}
			s.Rules[to].Edges = append(s.Rules[to].Edges, e)
		}
	}
	return s
}

func join[V any](d domain[V], envs ...Env[V]) Env[V] {
	var joined Env[V]
	for _, e := range envs {
		if !joined.Reached {
			joined = e
			continue
		}
		if !e.Reached {
			continue
		}
		for i, v := range e.Vals {
			joined.Vals[i] = d.join(joined.Vals[i], v)
		}
	}
	return joined
}

func below[V any](d domain[V], low, high Env[V]) bool {
	if !low.Reached || !high.Reached {
		return !low.Reached
	}
	for i, v := range low.Vals {
		if !d.below(v, high.Vals[i]) {
			return false
		}
	}
	return true
}

// edge makes what the node makes of an environment on its first edge or its
// second one: they differ for an If, whose first is taken where its test is so.
func edge[V any](d domain[V], node source.Node, first bool) func(Env[V]) Env[V] {
	var step func(Env[V]) Env[V]
	switch node.Kind {
	case source.Copy:
		step = func(e Env[V]) Env[V] { return e.with(node.Var, value(d, e, node.A)) }
	case source.Input:
		step = func(e Env[V]) Env[V] { return e.with(node.Var, d.input()) }
	case source.Compute:
		step = func(e Env[V]) Env[V] { return compute(d, e, node) }
	case source.If:
		step = func(e Env[V]) Env[V] { return branch(d, e, node, first) }
	default:
		step = func(e Env[V]) Env[V] { return e }
	}
	return func(e Env[V]) Env[V] {
		if !e.Reached {
			return Env[V]{}
		}
		return step(e)
	}
}

func (e Env[V]) with(variable int, v V) Env[V] {
	e.Vals[variable] = v
	return e
}

func value[V any](d domain[V], e Env[V], o source.Operand) V {
	if o.IsVar {
		return e.Vals[o.Var]
	}
	return d.constant(o.Const)
}

func compute[V any](d domain[V], e Env[V], node source.Node) Env[V] {
	v, ok := d.compute(node.Op, value(d, e, node.A), value(d, e, node.B))
	if !ok {
		return Env[V]{}
	}
	return e.with(node.Var, v)
}

func branch[V any](d domain[V], e Env[V], node source.Node, so bool) Env[V] {
	a, b, ok := d.assume(node.Test, so, value(d, e, node.A), value(d, e, node.B))
	if !ok {
		return Env[V]{}
	}
	return narrow(d, narrow(d, e, node.A, a), node.B, b)
}

// narrow meets the operand's value with v, so that a variable which is both operands gets both bounds.
func narrow[V any](d domain[V], e Env[V], o source.Operand, v V) Env[V] {
	if !e.Reached || !o.IsVar {
		return e
	}
	met, ok := d.meet(e.Vals[o.Var], v)
	if !ok {
		return Env[V]{}
	}
	return e.with(o.Var, met)
}
