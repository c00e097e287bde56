package names

import (
	"slices"

	"augur/api"
)

// The copies share no list with what they are made of, so that neither an index nor an answer hangs on what becomes of that.

// copies is a list of copies.
func copies[T any](list []T, copyOf func(T) T) []T {
	var made []T
	for _, x := range list {
		made = append(made, copyOf(x))
	}
	return made
}

// copyOfType has the fields of a type's item alone.
func copyOfType(it api.Item) api.Item {
	return api.Item{Kind: it.Kind, Name: it.Name, Vars: slices.Clone(it.Vars), Ctors: copies(it.Ctors, copyOfDecl)}
}

func copyOfDecl(decl api.CtorDecl) api.CtorDecl {
	decl.Args = copyOfTypes(decl.Args)
	return decl
}

func copyOfTypes(list []api.TypeExpr) []api.TypeExpr { return copies(list, copyOfTypeExpr) }

func copyOfTypeExpr(e api.TypeExpr) api.TypeExpr {
	e.Args = copyOfTypes(e.Args)
	return e
}

func copyOfCtor(c api.Ctor) api.Ctor {
	c.Vars, c.Args = slices.Clone(c.Vars), copyOfTypes(c.Args)
	return c
}

func copyOfPred(p api.Pred) api.Pred {
	p.Types, p.Modes, p.Clauses = copyOfTypes(p.Types), copies(p.Modes, copyOfMode), slices.Clone(p.Clauses)
	return p
}

func copyOfMode(m api.Mode) api.Mode {
	m.In = slices.Clone(m.In)
	return m
}
