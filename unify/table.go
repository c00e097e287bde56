package unify

import (
	"slices"

	"augur/api"
)

// binding is what an unknown is bound to: a type of no Kind, if it isn't bound.
// How many nodes it comes to, and in which types it stands, is kept beside it, since binding one unknown may make any
// other one too large, and to measure all of them each time would take too long.
type binding struct {
	api.Type
	nodes int   // of the unknown resolved
	users []int // the unknowns that are bound to types with this one in them, each as often as it stands there
}

// refuse tells what is wrong with types that are handed in, whatever is bound.
func (t *Table) refuse(list ...api.Type) error {
	if slices.ContainsFunc(list, t.isStrange) {
		return api.ErrState
	}
	if slices.ContainsFunc(list, isLarge) {
		return api.ErrLarge
	}
	return nil
}

// isStrange tells whether an unknown in a type isn't the table's, or a part of it is of no Kind.
func (t *Table) isStrange(a api.Type) bool {
	switch a.Kind {
	case api.TyInt, api.TyRigid:
		return false
	case api.TyData:
		return slices.ContainsFunc(a.Args, t.isStrange)
	case api.TyFree:
		return a.Var < 0 || a.Var >= len(t.unknowns)
	}
	return true
}

// isLarge tells whether a type has too many nodes as it stands.
func isLarge(a api.Type) bool {
	return nodes(a, func(int) int { return 1 }) > MaxNodes
}

// nodes is how many nodes a type has, where an unknown has as many as nodesOf tells.
func nodes(a api.Type, nodesOf func(v int) int) int {
	switch a.Kind {
	case api.TyFree:
		return nodesOf(a.Var)
	case api.TyData:
		sum := 1
		for _, arg := range a.Args {
			sum += nodes(arg, nodesOf)
		}
		return sum
	}
	return 1
}

// nodesOf is how many nodes an unknown resolved has.
func (t *Table) nodesOf(v int) int { return t.unknowns[v].nodes }

// The functions below take types that own made, which nobody changes: so what is bound may share its parts with them.

// head is a type, or, if it is a bound unknown, the type that it leads to.
func (t *Table) head(a api.Type) api.Type {
	for a.Kind == api.TyFree && t.unknowns[a.Var].Kind != 0 {
		b := &t.unknowns[a.Var]
		// A long way through unknowns becomes half as long each time that it is gone.
		if b.Kind == api.TyFree && t.unknowns[b.Var].Kind != 0 {
			b.Type = t.unknowns[b.Var].Type
		}
		a = b.Type
	}
	return a
}

// unify unifies two types.
func (t *Table) unify(a, b api.Type) error {
	a, b = t.head(a), t.head(b)
	switch {
	case a.Kind == api.TyFree && b.Kind == api.TyFree && a.Var == b.Var:
		return nil
	case a.Kind == api.TyFree:
		return t.bind(a.Var, b)
	case b.Kind == api.TyFree:
		return t.bind(b.Var, a)
	case a.Kind != b.Kind || a.Name != b.Name || len(a.Args) != len(b.Args):
		return api.ErrTypes
	}
	for i, arg := range a.Args {
		if err := t.unify(arg, b.Args[i]); err != nil {
			return err
		}
	}
	return nil
}

// bind binds an unknown to a type that is neither a bound unknown nor the unknown itself.
func (t *Table) bind(v int, a api.Type) error {
	if t.occurs(v, a) {
		return api.ErrTypes
	}
	if !t.grow(v, nodes(a, t.nodesOf)-1) {
		return api.ErrLarge
	}
	t.unknowns[v].Type = a
	t.use(v, a)
	return nil
}

// occurs tells whether an unknown is in a type resolved.
func (t *Table) occurs(v int, a api.Type) bool {
	a = t.head(a)
	if a.Kind == api.TyFree {
		return a.Var == v
	}
	return slices.ContainsFunc(a.Args, func(arg api.Type) bool { return t.occurs(v, arg) })
}

// grow counts more nodes for an unknown, and so for each unknown in which it is; false, and it counts none, if one got too large.
func (t *Table) grow(v, more int) bool {
	if more == 0 {
		return true
	}
	grown := []int{v} // each as often as it grows
	for at := 0; at < len(grown); at++ {
		t.unknowns[grown[at]].nodes += more
		if t.nodesOf(grown[at]) > MaxNodes {
			for _, u := range grown[:at+1] {
				t.unknowns[u].nodes -= more
			}
			return false
		}
		grown = append(grown, t.unknowns[grown[at]].users...)
	}
	return true
}

// use notes that an unknown is bound to a type with the unknowns in it.
func (t *Table) use(v int, a api.Type) {
	if a.Kind == api.TyFree {
		t.unknowns[a.Var].users = append(t.unknowns[a.Var].users, v)
	}
	for _, arg := range a.Args {
		t.use(v, arg)
	}
}

// resolved is a type with each bound unknown replaced.
func (t *Table) resolved(a api.Type) api.Type {
	a = t.head(a)
	a.Args = each(a.Args, t.resolved)
	return a
}
