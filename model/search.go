package model

import (
	"maps"
	"slices"

	"augur/api"
	"augur/data"
	"augur/flat"
	"augur/sem"
)

// searcher is what all searches of a call share.
type searcher struct {
	items  []api.Item
	index  api.Index
	bodies map[api.Key]*goal // those that were searched so far
	left   int               // how many steps may still be made
}

func newSearcher(items []api.Item, x api.Index, fuel int) *searcher {
	return &searcher{items: items, index: x, bodies: map[api.Key]*goal{}, left: min(max(fuel, 0), sem.MaxSteps)}
}

// aborted is why all searches of a call end at once; they panic with it.
type aborted struct {
	end int
	err error // of layer 5, which makes a body of each predicate of a source that is compiled
}

// solve is the rows of a predicate, and how the search for them ended.
func (s *searcher) solve(pred api.Key, k known) (rows [][]api.Data, end int, err error) {
	defer func() {
		switch why := recover().(type) {
		case nil:
		case aborted:
			rows, end, err = nil, why.end, why.err
		default:
			panic(why)
		}
	}()
	return search{s, 1}.rows(pred, k), Ended, nil
}

// step is the taking of a goal.
func (s *searcher) step() {
	if s.left == 0 {
		panic(aborted{end: Fuel})
	}
	s.left--
}

// body is the goal of a predicate's body.
func (s *searcher) body(pred api.Key) *goal {
	g, ok := s.bodies[pred]
	if !ok {
		b, err := flat.Flatten(s.items, s.index, pred)
		if err != nil {
			panic(aborted{err: err})
		}
		g = newGoal(s.index, b)
		s.bodies[pred] = g
	}
	return g
}

// search is a search of a predicate's body.
type search struct {
	*searcher
	nest int
}

// rows is the solutions of a predicate's body, in increasing order and each once: of each the arguments that aren't known from the
// start. Those that are known are the same in all, and may be large, so they aren't compared for each solution.
func (s search) rows(pred api.Key, k known) [][]api.Data {
	if s.nest > MaxNest {
		panic(aborted{end: Fuel})
	}
	body := s.body(pred)
	var open []int
	for v := range pred.Arity {
		if !k.has(v) {
			open = append(open, v)
		}
	}
	var rows [][]api.Data
	s.run([]*goal{body}, k, func(k known) {
		if !k.hasAll(open) {
			panic(aborted{end: Stuck})
		}
		rows = append(rows, k.all(open))
	})
	slices.SortFunc(rows, compare)
	return slices.CompactFunc(rows, func(a, b []api.Data) bool { return compare(a, b) == 0 })
}

// compare is data's order for rows.
func compare(a, b []api.Data) int { return slices.CompareFunc(a, b, data.Compare) }

// holds tells whether a goal can hold with what is known, of which nothing is changed.
func (s search) holds(g *goal, k known) bool {
	found := false
	s.run([]*goal{g}, maps.Clone(k), func(known) { found = true })
	return found
}

// run goes on with goals and what is known, both of which it changes, and calls found with what is known wherever all goals hold.
func (s search) run(goals []*goal, k known, found func(known)) {
	for len(goals) > 0 {
		at := next(goals, k)
		if at < 0 {
			panic(aborted{end: Stuck})
		}
		s.step()
		branches := s.branches(goals[at], k)
		if len(branches) == 0 {
			return
		}
		last := len(branches) - 1
		for _, on := range branches[:last] {
			more := maps.Clone(k)
			if parts, ok := on(more); ok {
				s.run(slices.Concat(goals[:at], parts, goals[at+1:]), more, found)
			}
		}
		// For the last branch nothing is copied, as no other one needs what is here; so a search without choices isn't deep.
		parts, ok := branches[last](k)
		if !ok {
			return
		}
		goals = slices.Replace(goals, at, at+1, parts...)
	}
	found(k)
}

// next is the place of the goal that is taken next; -1 if none can be.
func next(goals []*goal, k known) int {
	for at := len(goals) - 1; at >= 0; at-- {
		if goals[at].isReady(k) {
			return at
		}
	}
	if at := slices.IndexFunc(goals, func(g *goal) bool { return g.Kind == api.FOr }); at >= 0 {
		return at
	}
	return slices.IndexFunc(goals, func(g *goal) bool { return g.isRefutable(k) })
}
