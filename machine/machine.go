// Package machine: runs of programs.
package machine

import (
	"slices"

	"warrant/api"
	"warrant/source"
)

// goesOn stands for no end: the ends of a run are numbered from 1.
const goesOn = 0

// Run runs p until it ends or has visited as many nodes as there is fuel.
func Run(p source.Program, inputs []int64, fuel int) api.Trace {
	s := state{vals: make([]int64, p.Vars), inputs: inputs}
	var steps []api.Step
	at := 0
	for len(steps) < fuel {
		// Each step needs values of its own: the run goes on changing s.vals.
		steps = append(steps, api.Step{Node: at, Vals: slices.Clone(s.vals)})
		node := p.Nodes[at]
		if end := s.visit(node); end != goesOn {
			return api.Trace{End: end, Outputs: s.outputs, Steps: steps}
		}
		at = node.Edges[s.edge(node)]
	}
	return api.Trace{End: api.NoFuel, Outputs: s.outputs, Steps: steps}
}

// state is what a run has at hand; inputs are those that are left.
type state struct {
	vals    []int64
	inputs  []int64
	outputs []int64
}

// visit does what the node does, and tells how the run ends there, or goesOn.
func (s *state) visit(node source.Node) int {
	switch node.Kind {
	case source.Copy:
		s.vals[node.Var] = s.value(node.A)
	case source.Compute:
		result, ok := node.Op.Apply(s.value(node.A), s.value(node.B))
		if !ok {
			return api.Trapped
		}
		s.vals[node.Var] = result
	case source.Input:
		if len(s.inputs) == 0 {
			return api.Starved
		}
		s.vals[node.Var] = s.inputs[0]
		s.inputs = s.inputs[1:]
	case source.Output:
		s.outputs = append(s.outputs, s.value(node.A))
	case source.Return:
		return api.Returned
	}
	return goesOn
}

// edge says which of the node's edges is taken: the label's of an If is its first.
func (s *state) edge(node source.Node) int {
	if node.Kind == source.If && !node.Test.Holds(s.value(node.A), s.value(node.B)) {
		return 1
	}
	return 0
}

func (s *state) value(o source.Operand) int64 {
	if o.IsVar {
		return s.vals[o.Var]
	}
	return o.Const
}
