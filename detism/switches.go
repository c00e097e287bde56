package detism

import (
	"iter"
	"maps"

	"augur/api"
	"augur/modes"
)

// switched is a goal in which each SOr that is a switch is one, from the outside in. That a variable is spent need not be
// noted: the goals of a case all ask for one constructor of it, so none of their SOrs becomes a switch of it.
func switched(g api.Sched) api.Sched {
	if g.Kind == api.SOr {
		if s, ok := switchOf(g.Goals); ok {
			g = s
		}
	}
	var goals []api.Sched
	for _, part := range g.Goals {
		goals = append(goals, switched(part))
	}
	g.Goals = goals
	return g
}

// switchOf is the goals of an SOr as a switch, where those within them are as they were; false if there is no variable for one.
func switchOf(goals []api.Sched) (api.Sched, bool) {
	if len(goals) < 2 {
		return api.Sched{}, false
	}
	var all []map[int]api.Key
	for _, g := range goals {
		all = append(all, maps.Collect(asked(g)))
	}
	for x := range asked(goals[0]) {
		if cases, parts := divided(goals, all, x); len(cases) > 1 {
			return api.Sched{Kind: api.SSwitch, X: x, Cases: cases, Goals: alternatives(parts)}, true
		}
	}
	return api.Sched{}, false
}

// asked goes over the variables that a goal asks, each once, in order, with the constructors for which it asks.
func asked(g api.Sched) iter.Seq2[int, api.Key] {
	return func(yield func(int, api.Key) bool) {
		settled := map[int]struct{}{} // what is asked already, or given a value: an SMatch of it asks nothing
	head:
		for _, part := range listOf(g) {
			switch part.Kind {
			case api.SMatch:
				if _, ok := settled[part.X]; ok {
					break
				}
				settled[part.X] = struct{}{}
				if !yield(part.X, part.Ctor) {
					return
				}
			case api.SBuild, api.SCopy, api.SLoad:
			default:
				break head
			}
			for v := range modes.Binds(part) {
				settled[v] = struct{}{}
			}
		}
	}
}

// listOf is the list of a goal.
func listOf(g api.Sched) []api.Sched {
	if g.Kind == api.SAnd {
		return g.Goals
	}
	return []api.Sched{g}
}

// divided is the constructors for which goals ask of a variable, in the order in which they first ask for them, and for each of
// them the goals that do; nothing if a goal doesn't ask the variable. all is what each goal asks.
func divided(goals []api.Sched, all []map[int]api.Key, x int) ([]api.Key, [][]api.Sched) {
	var cases []api.Key
	var parts [][]api.Sched
	places := map[api.Key]int{}
	for i, g := range goals {
		c, ok := all[i][x]
		if !ok {
			return nil, nil
		}
		at, ok := places[c]
		if !ok {
			at = len(cases)
			places[c] = at
			cases = append(cases, c)
			parts = append(parts, nil)
		}
		parts[at] = append(parts[at], g)
	}
	return cases, parts
}

// alternatives is one goal for each list of them: the only one, or the SOr of all.
func alternatives(parts [][]api.Sched) []api.Sched {
	var list []api.Sched
	for _, goals := range parts {
		if len(goals) == 1 {
			list = append(list, goals[0])
		} else {
			list = append(list, api.Sched{Kind: api.SOr, Goals: goals})
		}
	}
	return list
}
