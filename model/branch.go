package model

import (
	"augur/api"
	"augur/data"
	"augur/names"
	"augur/sem"
)

// branch is one way in which a search goes on behind a goal that it took: it makes more known, and returns the goals in place of that
// one; false if a variable would have another value than it has.
type branch func(k known) ([]*goal, bool)

// with goes on with goals in place of the one that was taken.
func with(goals ...*goal) branch {
	return func(known) ([]*goal, bool) { return goals, true }
}

// where goes on where variables have these values.
func where(vars []int, values []api.Data) branch {
	return func(k known) ([]*goal, bool) { return nil, k.learn(vars, values) }
}

// whereIs goes on where a variable has a value.
func whereIs(v int, d api.Data) branch { return where([]int{v}, []api.Data{d}) }

// branches is the ways in which a search goes on behind a goal, in order. If there is none, it finds nothing.
func (s search) branches(g *goal, k known) []branch {
	switch g.Kind {
	case api.FTrue:
		return []branch{with()}
	case api.FAnd:
		return []branch{with(g.parts...)}
	case api.FTry:
		// As if nothing were raised.
		return []branch{with(g.parts[0])}
	case api.FOr:
		return each(g.parts)
	case api.FNot:
		if !s.holds(g.parts[0], k) {
			return []branch{with()}
		}
	case api.FSame:
		return []branch{same(g, k)}
	case api.FInt:
		return []branch{whereIs(g.X, api.Data{Int: g.Int})}
	case api.FCtor:
		return structure(g, k)
	case api.FThrow:
		panic(aborted{end: Raised})
	case api.FCall:
		if names.Builtin(g.Pred) {
			return reckon(g, k)
		}
		return s.call(g, k)
	}
	return nil
}

// each goes on with each of a choice's goals.
func each(parts []*goal) []branch {
	var list []branch
	for _, part := range parts {
		list = append(list, with(part))
	}
	return list
}

// same makes two variables equal, one of which is known.
func same(g *goal, k known) branch {
	if k.has(g.Y) {
		return whereIs(g.X, k[g.Y])
	}
	return whereIs(g.Y, k[g.X])
}

// structure takes a structure apart, or builds one of arguments that are known.
func structure(g *goal, k known) []branch {
	d, ok := k[g.X]
	if !ok {
		d = api.Data{Ctor: true, Name: g.Ctor.Name, Args: k.all(g.Args)}
		if !data.Good(d) {
			panic(aborted{end: Large})
		}
		return []branch{whereIs(g.X, d)}
	}
	if !d.Ctor || d.Name != g.Ctor.Name || len(d.Args) != len(g.Args) {
		return nil
	}
	return []branch{where(g.Args, d.Args)}
}

// reckon calls a predicate that is built in.
func reckon(g *goal, k known) []branch {
	result, code := sem.Arith(g.Pred.Name, k[g.Args[0]].Int, k[g.Args[1]].Int)
	switch {
	case code != 0:
		panic(aborted{end: Raised})
	case g.Pred.Arity == 3:
		return []branch{whereIs(g.Args[2], api.Data{Int: result})}
	case result == 1:
		return []branch{with()}
	}
	return nil
}

// call goes on with each row of another predicate.
func (s search) call(g *goal, k known) []branch {
	handed := known{}
	var open []int
	for i, v := range g.Args {
		if d, ok := k[v]; ok {
			handed[i] = d
		} else {
			open = append(open, v)
		}
	}
	var list []branch
	for _, row := range (search{s.searcher, s.nest + 1}).rows(g.Pred, handed) {
		list = append(list, where(open, row))
	}
	return list
}
