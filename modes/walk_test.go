package modes_test

import (
	"fmt"
	"slices"
	"testing"

	"augur/api"
	"augur/modes"
)

// filled is a goal of a kind with something in each field, and goals within it.
func filled(kind int) api.Sched {
	return api.Sched{
		Kind: kind, X: 1, Y: 2, Int: 3, Ctor: key("c", 3), Proc: api.ProcId{Pred: key("p", 3), Mode: 1}, Args: []int{4, 5, 4}, Cases: []api.Key{key("c", 3), key("d", 0)},
	}
}

// P8.1: Reads of each kind; what is within a goal is read by that, not by the goal itself.
func TestReads(t *testing.T) {
	for kind, want := range map[int]string{
		api.STrue: "", api.SFail: "", api.SCopy: " 2", api.STest: " 1 2", api.SLoad: "", api.SIs: " 1", api.SBuild: " 4 5 4", api.SMatch: " 1",
		api.SCall: "", api.SAnd: "", api.SOr: "", api.SNot: "", api.SThrow: " 1", api.STry: "", api.SSwitch: " 1", 0: "", -1: "", 16: "",
	} {
		s := filled(kind)
		held(t, fmt.Sprint(kind), row(modes.Reads(s)), want)
		s.Goals = []api.Sched{filled(api.SCopy), filled(api.STest)}
		held(t, fmt.Sprint(kind, " with goals"), row(modes.Reads(s)), want)
	}
	held(t, "the same twice", modes.Reads(api.Sched{Kind: api.STest, X: 3, Y: 3}), []int{3, 3})
	held(t, "no argument", len(modes.Reads(api.Sched{Kind: api.SBuild, X: 3, Ctor: key("nil", 0)})), 0)
	// The list is new.
	args := []int{7, 8, 9}
	list := modes.Reads(api.Sched{Kind: api.SBuild, Args: args[:2]})
	list[0] = 0
	held(t, "arguments", append(list, 1)[:2], []int{0, 8})
	held(t, "arguments", args, []int{7, 8, 9})
}

// P8.1: Binds of each kind, by itself.
func TestBinds(t *testing.T) {
	for kind, want := range map[int]string{
		api.STrue: "", api.SFail: "", api.SCopy: " 1", api.STest: "", api.SLoad: " 1", api.SIs: "", api.SBuild: " 1", api.SMatch: " 4 5",
		api.SCall: "", api.SAnd: "", api.SOr: "", api.SNot: "", api.SThrow: "", api.STry: " 1", api.SSwitch: "", 0: "", -1: "", 16: "",
	} {
		held(t, fmt.Sprint(kind), row(slices.Collect(modes.Binds(filled(kind)))), want)
	}
	held(t, "no argument", len(slices.Collect(modes.Binds(api.Sched{Kind: api.SMatch, X: 3, Ctor: key("nil", 0)}))), 0)
}

func load(v int) api.Sched { return api.Sched{Kind: api.SLoad, X: v} }

func goal(kind, x int, goals ...api.Sched) api.Sched {
	return api.Sched{Kind: kind, X: x, Goals: goals}
}

// P8.1: Binds of goals within goals: each variable once, where it first occurs.
func TestBindsWithin(t *testing.T) {
	match := api.Sched{Kind: api.SMatch, X: 9, Args: []int{3, 2, 5}}
	for _, c := range []struct {
		s    api.Sched
		want []int
	}{
		{goal(api.SAnd, 0, load(2), load(1), load(2), load(3)), []int{2, 1, 3}},
		{goal(api.SOr, 0, load(2), load(1), load(2)), []int{2, 1}},
		{goal(api.SNot, 0, load(7)), []int{7}},
		{goal(api.SSwitch, 6, match, load(5), load(4)), []int{3, 2, 5, 4}},
		{goal(api.STry, 6, load(5), load(6)), []int{6, 5}},
		{goal(api.STry, 6, load(5), goal(api.STry, 4, load(3), load(6))), []int{6, 5, 4, 3}},
		{goal(api.SAnd, 0, match, goal(api.SOr, 0, load(5), goal(api.SAnd, 0, load(1), goal(api.SNot, 0, load(0)))), load(8)), []int{3, 2, 5, 1, 0, 8}},
		{goal(api.SAnd, 0, goal(api.SThrow, 3), goal(api.SIs, 4), filled(api.SCall), filled(api.STest)), nil},
	} {
		held(t, text(c.s), slices.Collect(modes.Binds(c.s)), slices.Clone(c.want))
		// As often as one likes, and up to any point.
		seq := modes.Binds(c.s)
		for round := range len(c.want) + 2 {
			var some []int
			for v := range seq {
				if len(some) == round {
					break
				}
				some = append(some, v)
			}
			held(t, text(c.s), row(some), row(c.want[:min(round, len(c.want))]))
		}
	}
}

// P8.1, rule 8: Binds goes over what was there when it was called, whatever becomes of the goal.
func TestBindsStays(t *testing.T) {
	s := goal(api.SAnd, 0, api.Sched{Kind: api.SMatch, X: 9, Args: []int{3, 2}}, load(5))
	seq := modes.Binds(s)
	s.Goals[0].Args[0], s.Goals[1].X = 8, 7
	held(t, "as it was", slices.Collect(seq), []int{3, 2, 5})
	held(t, "as it is", slices.Collect(modes.Binds(s)), []int{8, 2, 7})
	for v := range seq {
		s.Goals[0].Args[1] = v + 10
	}
	held(t, "as it was", slices.Collect(seq), []int{3, 2, 5})
}

// P8.1: Same asks each field, of each goal within.
func TestSameOfGoals(t *testing.T) {
	changes := []func(*api.Sched){
		func(*api.Sched) {},
		func(s *api.Sched) { s.Kind++ },
		func(s *api.Sched) { s.X++ },
		func(s *api.Sched) { s.Y++ },
		func(s *api.Sched) { s.Int++ },
		func(s *api.Sched) { s.Ctor.Name = "other" },
		func(s *api.Sched) { s.Ctor.Arity++ },
		func(s *api.Sched) { s.Proc.Pred.Name = "other" },
		func(s *api.Sched) { s.Proc.Pred.Arity++ },
		func(s *api.Sched) { s.Proc.Mode++ },
		func(s *api.Sched) { s.Args = []int{4, 5, 5} },
		func(s *api.Sched) { s.Args = []int{4, 5} },
		func(s *api.Sched) { s.Args = []int{4, 5, 4, 4} },
		func(s *api.Sched) { s.Args = nil },
		func(s *api.Sched) { s.Cases = []api.Key{key("c", 3), key("e", 0)} },
		func(s *api.Sched) { s.Cases = []api.Key{key("c", 2), key("d", 0)} },
		func(s *api.Sched) { s.Cases = s.Cases[:1] },
		func(s *api.Sched) { s.Cases = nil },
		func(s *api.Sched) { s.Goals = []api.Sched{filled(api.SCopy)} },
		func(s *api.Sched) { s.Goals = []api.Sched{filled(api.SCopy), filled(api.STest)} },
		func(s *api.Sched) { s.Goals = []api.Sched{filled(api.STest), filled(api.SCopy)} },
	}
	for kind := range 17 {
		for i, change := range changes {
			for j, other := range changes {
				a, b := filled(kind), filled(kind)
				change(&a)
				other(&b)
				what := fmt.Sprint(kind, " ", i, " ", j)
				held(t, what, modes.Same(a, b), i == j)
				held(t, what+" within", modes.Same(goal(api.SNot, 0, goal(api.SOr, 0, load(1), a)), goal(api.SNot, 0, goal(api.SOr, 0, load(1), b))), i == j)
			}
		}
	}
	// nil and empty lists are the same.
	held(t, "empty", modes.Same(api.Sched{}, api.Sched{Args: []int{}, Goals: []api.Sched{}, Cases: []api.Key{}}), true)
	held(t, "empty", modes.Same(api.Sched{Args: []int{}, Goals: []api.Sched{{}}, Cases: []api.Key{}}, api.Sched{Goals: []api.Sched{{Args: []int{}}}}), true)
}

// uses is what a goal itself reads, and what it itself gives a value, by the document once more.
func uses(s api.Sched) (reads, gives []int) {
	switch s.Kind {
	case api.SCopy:
		return []int{s.Y}, []int{s.X}
	case api.STest:
		return []int{s.X, s.Y}, nil
	case api.SIs, api.SThrow:
		return []int{s.X}, nil
	case api.SBuild:
		return s.Args, []int{s.X}
	case api.SMatch:
		return []int{s.X}, s.Args
	case api.SLoad, api.STry:
		return nil, []int{s.X}
	}
	return nil, nil
}

// within is a goal and all goals within it, each ahead of those within it.
func within(s api.Sched) []api.Sched {
	list := []api.Sched{s}
	for _, g := range s.Goals {
		list = append(list, within(g)...)
	}
	return list
}

// P8.1: Reads and Binds of all that is scheduled of thrown bodies, and Same of each with the one before it.
func TestWalksOfThrown(t *testing.T) {
	var before api.Sched
	scheduledBodies(t, 15, 300, 4, func(b body, p api.Proc) {
		var all []int
		for _, s := range within(p.Goal) {
			reads, gives := uses(s)
			held(t, b.text, row(modes.Reads(s)), row(reads))
			for _, v := range gives {
				if !slices.Contains(all, v) {
					all = append(all, v)
				}
			}
		}
		held(t, b.text, row(slices.Collect(modes.Binds(p.Goal))), row(all))
		held(t, b.text, modes.Same(p.Goal, p.Goal), true)
		held(t, b.text, modes.Same(p.Goal, before), form(p.Goal) == form(before))
		before = p.Goal
	})
}
