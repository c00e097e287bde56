package model

import (
	"slices"

	"augur/api"
	"augur/flat"
	"augur/names"
)

// goal is a flat goal, and what its readiness hangs on besides what is known. This is worked out once, as a goal is looked at often.
type goal struct {
	api.Flat
	parts []*goal
	modes []api.Mode // of FCall: those of the predicate
	outer []int      // of FNot: the variables in it that are outside it
}

// isReady tells whether a goal can be taken ahead of all choices. Goals that no layer makes never are.
func (g *goal) isReady(k known) bool {
	switch g.Kind {
	case api.FTrue, api.FFail, api.FAnd, api.FInt:
		return true
	case api.FTry:
		return len(g.parts) == 2
	case api.FSame:
		return k.has(g.X) || k.has(g.Y)
	case api.FCtor:
		return k.has(g.X) || k.hasAll(g.Args)
	case api.FThrow:
		return k.has(g.X)
	case api.FCall:
		return slices.ContainsFunc(g.modes, func(m api.Mode) bool { return k.hasInputs(g.Args, m.In) })
	}
	return false
}

// isRefutable tells whether a goal is an FNot that can be taken when nothing else can.
func (g *goal) isRefutable(k known) bool {
	return g.Kind == api.FNot && len(g.parts) == 1 && k.hasAll(g.outer)
}

// counts is in how many goals each variable occurs, where a goal doesn't count for those within it.
type counts map[int]int

// add adds the variables of a goal, without those of the goals within it.
func (c counts) add(f api.Flat) {
	f.Goals = nil
	for v := range flat.Vars(f) {
		c[v]++
	}
}

// addAll adds the variables of a goal, and those of all goals within it.
func (c counts) addAll(f api.Flat) {
	c.add(f)
	for _, part := range f.Goals {
		c.addAll(part)
	}
}

// maker makes the goals of a body.
type maker struct {
	index api.Index
	arity int
	total counts // of the whole body
}

// newGoal is the goal of a body.
func newGoal(x api.Index, b api.Body) *goal {
	m := maker{index: x, arity: b.Pred.Arity, total: counts{}}
	m.total.addAll(b.Goal)
	return m.goal(b.Goal, counts{})
}

// goal makes a goal, and adds the variables in it to those around it.
func (m maker) goal(f api.Flat, around counts) *goal {
	g := &goal{Flat: f}
	within := counts{}
	within.add(f)
	for _, part := range f.Goals {
		g.parts = append(g.parts, m.goal(part, within))
	}
	switch f.Kind {
	case api.FCall:
		p, _ := names.Pred(m.index, f.Pred)
		g.modes = p.Modes
	case api.FNot:
		g.outer = m.outside(within)
	}
	for v, times := range within {
		around[v] += times
	}
	return g
}

// outside is the variables that are arguments, or occur in more goals than these. Their order doesn't matter: all must be known.
func (m maker) outside(within counts) []int {
	var list []int
	for v, times := range within {
		if v < m.arity || m.total[v] > times {
			list = append(list, v)
		}
	}
	return list
}
