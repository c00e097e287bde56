package sem

import (
	"slices"

	"augur/api"
)

// term is a ground term. It is never changed, so terms share their parts; its size is noted, as each structure that is built asks
// for that of its parts.
type term struct {
	ctor  bool
	int   int
	key   api.Key // of a structure
	args  []*term
	nodes int
	depth int
}

func number(n int) *term { return &term{int: n, nodes: 1, depth: 1} }

// structure is a constructor of terms.
func structure(name string, args []*term) *term {
	t := &term{ctor: true, key: api.Key{Name: name, Arity: len(args)}, args: args, nodes: 1, depth: 1}
	for _, arg := range args {
		t.nodes += arg.nodes
		t.depth = max(t.depth, arg.depth+1)
	}
	return t
}

// good tells whether a term is neither too large nor too deep.
func (t *term) good() bool { return t.nodes <= api.MaxSize && t.depth <= api.MaxDepth }

// isInt tells whether a term is an int.
func (t *term) isInt(n int) bool { return !t.ctor && t.int == n }

// same tells whether terms are equal.
func same(a, b *term) bool {
	return a == b || a.ctor == b.ctor && a.int == b.int && a.key == b.key && slices.EqualFunc(a.args, b.args, same)
}

// termOf is the term of data.
func termOf(d api.Data) *term {
	if !d.Ctor {
		return number(d.Int)
	}
	var args []*term
	for _, arg := range d.Args {
		args = append(args, termOf(arg))
	}
	return structure(d.Name, args)
}

// dataOf is the data of a term: a copy, as terms share their parts.
func dataOf(t *term) api.Data {
	var args []api.Data
	for _, arg := range t.args {
		args = append(args, dataOf(arg))
	}
	return api.Data{Ctor: t.ctor, Int: t.int, Name: t.key.Name, Args: args}
}
