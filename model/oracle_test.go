package model_test

import (
	"fmt"
	"maps"
	"slices"
	"testing"

	"augur/api"
	"augur/data"
	"augur/flat"
	"augur/model"
	"augur/names"
	"augur/sem"
)

// The document once more, in another form: where a search goes on lies on a pile, what is known is a map that is copied whenever it
// grows, each goal tells sets of variables one of which must be known, and what aborts a search is returned.

// place is where a search goes on.
type place struct {
	goals []api.Flat
	known map[int]api.Data
}

// sheet is what is noted in all searches of a call.
type sheet struct {
	source
	fuel, steps int
	end         int
	deepest     int            // nest
	kinds       map[string]int // how often goals of a kind were taken, and what became of it
}

// occurrences is how often a variable occurs in a goal.
func occurrences(f api.Flat, v int) int {
	count := 0
	switch f.Kind {
	case api.FSame:
		count = times(v, f.X, f.Y)
	case api.FInt, api.FThrow, api.FTry:
		count = times(v, f.X)
	case api.FCtor:
		count = times(v, f.X) + times(v, f.Args...)
	case api.FCall:
		count = times(v, f.Args...)
	}
	for _, part := range f.Goals {
		count += occurrences(part, v)
	}
	return count
}

func times(v int, list ...int) int {
	count := 0
	for _, w := range list {
		if v == w {
			count++
		}
	}
	return count
}

// needs is sets of variables: if all of one are known, the goal is ready.
func (w *sheet) needs(f api.Flat) [][]int {
	switch f.Kind {
	case api.FTrue, api.FAnd, api.FTry, api.FFail, api.FInt:
		return [][]int{{}}
	case api.FSame:
		return [][]int{{f.X}, {f.Y}}
	case api.FCtor:
		return [][]int{{f.X}, f.Args}
	case api.FThrow:
		return [][]int{{f.X}}
	case api.FCall:
		var sets [][]int
		p, _ := names.Pred(w.x, f.Pred)
		for _, m := range p.Modes {
			set := []int{}
			for i, isIn := range m.In {
				if isIn {
					set = append(set, f.Args[i])
				}
			}
			sets = append(sets, set)
		}
		return sets
	}
	return nil
}

// open is those of a set that aren't known.
func (p place) open(set []int) []int {
	return slices.DeleteFunc(slices.Clone(set), func(v int) bool { _, ok := p.known[v]; return ok })
}

// without is the place behind a goal, with others instead of it.
func (p place) without(at int, goals ...api.Flat) place {
	var list []api.Flat
	list = append(list, p.goals[:at]...)
	list = append(list, goals...)
	return place{append(list, p.goals[at+1:]...), p.known}
}

// all is the values of the first so many variables, as far as they are known.
func (p place) all(count int) []api.Data {
	var list []api.Data
	for v := range count {
		if d, ok := p.known[v]; ok {
			list = append(list, d)
		}
	}
	return list
}

// equal is the place where a variable has a value; none if it has another one.
func (p place) equal(v int, d api.Data) []place {
	if old, ok := p.known[v]; ok {
		if form(old) != form(d) {
			return nil
		}
		return []place{p}
	}
	p.known = maps.Clone(p.known)
	p.known[v] = d
	return []place{p}
}

// allEqual is the same for several variables.
func (p place) allEqual(vars []int, values []api.Data) []place {
	places := []place{p}
	for i, v := range vars {
		if len(places) > 0 {
			places = places[0].equal(v, values[i])
		}
	}
	return places
}

// pick is the goal of a body that is taken at a place; -1: none can be.
func (w *sheet) pick(b api.Body, p place) int {
	for at := len(p.goals) - 1; at >= 0; at-- {
		if slices.ContainsFunc(w.needs(p.goals[at]), func(set []int) bool { return len(p.open(set)) == 0 }) {
			return at
		}
	}
	for at, f := range p.goals {
		if f.Kind == api.FOr {
			return at
		}
	}
	for at, f := range p.goals {
		var outer []int
		for v := range b.Vars {
			if n := occurrences(f, v); n > 0 && (v < b.Pred.Arity || occurrences(b.Goal, v) > n) {
				outer = append(outer, v)
			}
		}
		if f.Kind == api.FNot && len(p.open(outer)) == 0 {
			return at
		}
	}
	return -1
}

// search is the places where no goal remains and so many arguments are known, in order, from one in a body; 0 beside them, or why all
// searches are aborted.
func (w *sheet) search(b api.Body, from place, args, nest int) ([]place, int) {
	var found []place
	pile := []place{from}
	for len(pile) > 0 {
		p := pile[len(pile)-1]
		pile = pile[:len(pile)-1]
		if len(p.goals) == 0 {
			if len(p.all(args)) < args {
				return nil, model.Stuck
			}
			found = append(found, p)
			continue
		}
		at := w.pick(b, p)
		if at < 0 {
			return nil, model.Stuck
		}
		if w.steps == w.fuel {
			return nil, model.Fuel
		}
		w.steps++
		next, why := w.take(b, p, at, nest)
		if why != 0 {
			return nil, why
		}
		w.kinds[fmt.Sprint(p.goals[at].Kind, " to ", min(len(next), 2))]++
		slices.Reverse(next)
		pile = append(pile, next...)
	}
	return found, 0
}

// take is the places behind a goal.
func (w *sheet) take(b api.Body, p place, at, nest int) ([]place, int) {
	f := p.goals[at]
	rest := p.without(at)
	x, isKnown := p.known[f.X]
	switch f.Kind {
	case api.FTrue:
		return []place{rest}, 0
	case api.FAnd:
		return []place{p.without(at, f.Goals...)}, 0
	case api.FTry:
		return []place{p.without(at, f.Goals[0])}, 0
	case api.FSame:
		if isKnown {
			return rest.equal(f.Y, x), 0
		}
		return rest.equal(f.X, p.known[f.Y]), 0
	case api.FInt:
		return rest.equal(f.X, number(f.Int)), 0
	case api.FCtor:
		if isKnown && (!x.Ctor || x.Name != f.Ctor.Name || len(x.Args) != f.Ctor.Arity) {
			return nil, 0
		}
		if isKnown {
			return rest.allEqual(f.Args, x.Args), 0
		}
		x = made(f.Ctor.Name)
		for _, v := range f.Args {
			x.Args = append(x.Args, p.known[v])
		}
		if !data.Good(x) {
			return nil, model.Large
		}
		return rest.equal(f.X, x), 0
	case api.FThrow:
		return nil, model.Raised
	case api.FCall:
		return w.call(f, rest, nest)
	case api.FOr:
		var places []place
		for _, part := range f.Goals {
			places = append(places, p.without(at, part))
		}
		return places, 0
	case api.FNot:
		found, why := w.search(b, place{f.Goals, p.known}, 0, nest)
		if why != 0 || len(found) > 0 {
			return nil, why
		}
		return []place{rest}, 0
	}
	return nil, 0
}

// call is the places behind a call.
func (w *sheet) call(f api.Flat, rest place, nest int) ([]place, int) {
	if names.Builtin(f.Pred) {
		n, code := sem.Arith(f.Pred.Name, rest.known[f.Args[0]].Int, rest.known[f.Args[1]].Int)
		switch {
		case code != 0:
			return nil, model.Raised
		case len(f.Args) == 3:
			return rest.equal(f.Args[2], number(n)), 0
		case n == 0:
			return nil, 0
		}
		return []place{rest}, 0
	}
	known := map[int]api.Data{}
	for i, v := range f.Args {
		if d, ok := rest.known[v]; ok {
			known[i] = d
		}
	}
	tuples, why := w.tuples(f.Pred, known, nest+1)
	var places []place
	for _, tuple := range tuples {
		places = append(places, rest.allEqual(f.Args, tuple)...)
	}
	return places, why
}

// tuples is the tuples of a predicate, in order.
func (w *sheet) tuples(pred api.Key, known map[int]api.Data, nest int) ([][]api.Data, int) {
	w.deepest = max(w.deepest, nest)
	if nest > model.MaxNest {
		return nil, model.Fuel
	}
	b, _ := flat.Flatten(w.items, w.x, pred)
	found, why := w.search(b, place{[]api.Flat{b.Goal}, known}, pred.Arity, nest)
	tuples := map[string][]api.Data{}
	for _, p := range found {
		tuple := p.all(pred.Arity)
		tuples[form(tuple)] = tuple
	}
	list := slices.Collect(maps.Values(tuples))
	slices.SortFunc(list, func(a, b []api.Data) int { return slices.CompareFunc(a, b, data.Compare) })
	return list, why
}

// second is what Solutions should answer for a call that is right.
func (s source) second(id api.ProcId, in []api.Data, fuel int) (string, *sheet) {
	w := &sheet{source: s, fuel: min(max(fuel, 0), sem.MaxSteps), kinds: map[string]int{}}
	p, _ := names.Pred(s.x, id.Pred)
	known := map[int]api.Data{}
	for i, isIn := range p.Modes[id.Mode].In {
		if isIn {
			known[i], in = in[0], in[1:]
		}
	}
	tuples, why := w.tuples(id.Pred, known, 1)
	w.end = model.Ended
	if why != 0 {
		w.end, tuples = why, nil
	}
	return told(tuples, w.end), w
}

// agree asks that Solutions answers what the second form does, for some fuel, and returns the text of it.
func agree(t *testing.T, s source, id api.ProcId, in []api.Data, fuel int) (string, *sheet) {
	t.Helper()
	want, w := s.second(id, in, fuel)
	if got := s.solve(t, id, in, fuel); got != want {
		t.Fatalf("%s\n%v of %.900s, fuel %d:\n%.1500s, not\n%.1500s", s.text, id, form(in), fuel, got, want)
	}
	return want, w
}
