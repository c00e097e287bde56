package data

import (
	"slices"

	"augur/api"
)

// each is what change makes of each of a list.
func each[A, B any](list []A, change func(A) B) []B {
	var made []B
	for _, x := range list {
		made = append(made, change(x))
	}
	return made
}

// all tells whether each of a list is of a kind.
func all[T any](list []T, is func(T) bool) bool {
	return !slices.ContainsFunc(list, func(x T) bool { return !is(x) })
}

// parts is the arguments of data; an int has none, whatever its fields hold.
func parts(d api.Data) []api.Data {
	if !d.Ctor {
		return nil
	}
	return d.Args
}

// count is so many nodes and those of data. It ends at one too many, since data whose lists share memory may have more nodes
// than could ever be counted.
func count(nodes int, d api.Data) int {
	nodes++
	for _, arg := range parts(d) {
		if nodes > api.MaxSize {
			break
		}
		nodes = count(nodes, arg)
	}
	return nodes
}

// depth is how deep data nest.
func depth(d api.Data) int {
	deepest := 0
	for _, arg := range parts(d) {
		deepest = max(deepest, depth(arg))
	}
	return 1 + deepest
}

// copyOf is a copy of data that shares nothing with them.
func copyOf(d api.Data) api.Data {
	d.Args = each(d.Args, copyOf)
	return d
}

// termOf is the term of data.
func termOf(d api.Data) api.Term {
	if !d.Ctor {
		return api.Term{Kind: api.TInt, Int: d.Int}
	}
	return api.Term{Kind: api.TCtor, Name: d.Name, Args: each(d.Args, termOf)}
}

// dataOf is the data of a term without variables.
func dataOf(t api.Term) api.Data {
	if t.Kind == api.TInt {
		return api.Data{Int: t.Int}
	}
	return api.Data{Ctor: true, Name: t.Name, Args: each(t.Args, dataOf)}
}

// isOpen tells whether there is a variable in a term.
func isOpen(t api.Term) bool {
	return t.Kind == api.TVar || slices.ContainsFunc(t.Args, isOpen)
}
