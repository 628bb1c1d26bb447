// Package checker: takes certificates, or not. It searches nothing: it asks
// the rules once for each thing that a certificate says.
package checker

import (
	"warrant/api"
	"warrant/rules"
	"warrant/source"
)

// Check tells what is wrong with a certificate of p.
func Check(p source.Program, c api.Cert) api.Errno {
	if len(c.Nodes) != len(p.Nodes) {
		return api.ErrSize
	}
	switch c.Problem {
	case api.Constants:
		return checkConstants(p, c)
	case api.Ranges:
		return checkRanges(p, c)
	}
	return checkSets(p, c)
}

// Plain are the nodes without ranks, in memory of their own.
func Plain(nodes []api.Node) []api.Node {
	plain := make([]api.Node, len(nodes))
	for i, n := range nodes {
		plain[i] = api.Node{Facts: append([]int(nil), n.Facts...), Reached: n.Reached, Vals: plainVals(n.Vals)}
	}
	return plain
}

func plainVals(vals []api.Val) []api.Val {
	var plain []api.Val
	for _, v := range vals {
		plain = append(plain, api.Val{Kind: v.Kind, Lo: v.Lo, Hi: v.Hi})
	}
	return plain
}

// isSound reports whether what the rules say by what the nodes hold is at most what they hold.
func isSound[T any](s rules.System[T], held []T) bool {
	hold := func(node int) T { return held[node] }
	for node, thing := range held {
		if !s.Below(s.Says(node, hold), thing) {
			return false
		}
	}
	return true
}

// haveValues reports whether each node that is reached has a value for each variable.
func haveValues(nodes []api.Node, vars int) bool {
	for _, n := range nodes {
		if n.Reached && len(n.Vals) != vars {
			return false
		}
	}
	return true
}
