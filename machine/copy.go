package machine

import (
	"slices"

	"gatewarden/api"
)

// copyOf answers s in lists of its own: so what is done with the copy leaves s as it is, and what is done with s the copy.
func copyOf(s api.State) api.State {
	s.Rules = copyEach(s.Rules, copyRule)
	s.Nodes = copyEach(s.Nodes, copyNode)
	s.Conns = slices.Clone(s.Conns)
	s.Pend = copyEach(s.Pend, copyPending)
	s.Buckets = slices.Clone(s.Buckets)
	return s
}

func copyRule(r api.Rule) api.Rule {
	r.When = copyExpr(r.When)
	return r
}

func copyNode(n api.Node) api.Node {
	n.Atom = copyExpr(n.Atom)
	return n
}

func copyExpr(e api.Expr) api.Expr {
	e.Ranges = slices.Clone(e.Ranges)
	e.Of = copyEach(e.Of, copyExpr)
	return e
}

func copyPending(p api.Pending) api.Pending {
	p.Ask.Values = slices.Clone(p.Ask.Values)
	return p
}

// copyEach answers l in a list of its own, each thing in it copied by one.
func copyEach[T any](l []T, one func(T) T) []T {
	all := slices.Clone(l)
	for k, x := range all {
		all[k] = one(x)
	}
	return all
}
