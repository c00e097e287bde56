package unify

import (
	"strconv"

	"augur/api"
)

// intName is the type that no source declares.
const intName = "int"

// each is what change makes of each of a list.
func each[A, B any](list []A, change func(A) B) []B {
	var made []B
	for _, x := range list {
		made = append(made, change(x))
	}
	return made
}

// copyOf is a copy of a type that shares nothing with it.
func copyOf(a api.Type) api.Type {
	a.Args = each(a.Args, copyOf)
	return a
}

// own is a copy of a type with the fields of its Kind alone.
func own(a api.Type) api.Type {
	switch a.Kind {
	case api.TyData:
		return api.Type{Kind: a.Kind, Name: a.Name, Args: each(a.Args, own)}
	case api.TyRigid:
		return api.Type{Kind: a.Kind, Name: a.Name}
	case api.TyFree:
		return api.Type{Kind: a.Kind, Var: a.Var}
	}
	return api.Type{Kind: a.Kind}
}

// variables calls visit with the name of each variable in types, as often as it occurs.
func variables(list []api.TypeExpr, visit func(string)) {
	for _, x := range list {
		if x.Var {
			visit(x.Name)
			continue
		}
		variables(x.Args, visit)
	}
}

// appendText adds a type's text: a text of texts would be copied again at each level.
func appendText(text []byte, a api.Type) []byte {
	switch a.Kind {
	case api.TyInt:
		return append(text, intName...)
	case api.TyRigid:
		return append(text, a.Name...)
	case api.TyFree:
		return strconv.AppendInt(append(text, '?'), int64(a.Var), 10)
	case api.TyData:
		return appendArgs(append(text, a.Name...), a.Args)
	}
	return text
}

// appendArgs adds arguments in parentheses, if there are any.
func appendArgs(text []byte, args []api.Type) []byte {
	if len(args) == 0 {
		return text
	}
	text = append(text, '(')
	for i, arg := range args {
		if i > 0 {
			text = append(text, ", "...)
		}
		text = appendText(text, arg)
	}
	return append(text, ')')
}

// renumbered is a type whose unknowns have their numbers from numbers, or else the next ones, which are noted there.
func renumbered(a api.Type, numbers map[int]int) api.Type {
	if a.Kind == api.TyFree {
		v, ok := numbers[a.Var]
		if !ok {
			v = len(numbers)
			numbers[a.Var] = v
		}
		a.Var = v
	}
	a.Args = each(a.Args, func(arg api.Type) api.Type { return renumbered(arg, numbers) })
	return a
}
