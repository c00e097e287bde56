package detism_test

import (
	"fmt"
	"slices"
	"strings"
	"testing"

	"augur/api"
	"augur/detism"
	"augur/parse"
)

// detCall is a call of a mode that is declared det.
func (d goals) detCall() api.Sched {
	for {
		s := d.call()
		if (sheet{d.x, d.types}).det(s) == api.Det {
			return s
		}
	}
}

// closed is a goal as P9.2 has it.
func (d goals) closed(depth int) api.Sched {
	n := d.Intn(9)
	if depth == 0 {
		n = d.Intn(6)
	}
	switch n {
	case 0:
		return api.Sched{Kind: api.STrue}
	case 1:
		return api.Sched{Kind: api.SCopy, X: d.given(), Y: d.Intn(variables)}
	case 2:
		return api.Sched{Kind: api.SLoad, X: d.given(), Int: d.Intn(9)}
	case 3:
		return d.build()
	case 4, 5:
		return d.detCall()
	case 6, 7:
		return api.Sched{Kind: api.SAnd, Goals: repeated(d.Intn(5), func() api.Sched { return d.closed(depth - 1) })}
	}
	return d.closedSwitch(depth)
}

// closedSwitch is a switch with a case for each constructor whose goals begin with that SMatch.
func (d goals) closedSwitch(depth int) api.Sched {
	s := api.Sched{Kind: api.SSwitch, X: d.Intn(matched), Cases: nil}
	all := d.ctors(s.X)
	for _, at := range d.Perm(len(all)) {
		list := []api.Sched{d.matchOf(s.X, all[at])}
		for range d.Intn(4) {
			list = append(list, d.closed(depth-1))
		}
		s.Cases = append(s.Cases, all[at])
		s.Goals = append(s.Goals, d.whole(list))
	}
	return s
}

// within calls visit with a goal and each one within it.
func within(s *api.Sched, visit func(*api.Sched)) {
	visit(s)
	for i := range s.Goals {
		within(&s.Goals[i], visit)
	}
}

// P9.2: a closed procedure is det; with one thing otherwise it may do what that may.
func TestClosed(t *testing.T) {
	d := newGoals(t, 3)
	seen := map[int]int{}
	for range 2500 {
		p := d.proc(d.closed(4))
		if d.Intn(3) > 0 {
			p.Goal = d.closedSwitch(3)
		}
		what := text(p.Goal)
		held(t, what, inferred(t, what, d.x, p), "det")
		held(t, what, checked(t, what, d.x, p), "det semidet multi nondet")
		held(t, what, detism.Switches(d.x, p), p)
		count := 0
		within(&p.Goal, func(s *api.Sched) { count++; seen[s.Kind]++ })
		at := d.Intn(count)
		spoilt, is := d.spoilt(p.Goal, at)
		p.Goal = spoilt
		held(t, text(p.Goal), inferred(t, text(p.Goal), d.x, p), is)
	}
	for _, kind := range []int{api.STrue, api.SCopy, api.SLoad, api.SBuild, api.SCall, api.SAnd, api.SSwitch, api.SMatch} {
		if seen[kind] < 800 {
			t.Error(kind, seen)
		}
	}
}

// spoilt is a closed goal in which the goal at a place, counted from the outside in, isn't as P9.2 has it, and what it is then.
func (d goals) spoilt(g api.Sched, at int) (api.Sched, string) {
	g = copied(g)
	is, count := "", 0
	within(&g, func(s *api.Sched) {
		count++
		if count-1 != at {
			return
		}
		switch s.Kind {
		case api.SSwitch:
			s.Cases, s.Goals = s.Cases[1:], s.Goals[1:]
			is = "semidet"
		case api.SMatch:
			*s, is = api.Sched{Kind: api.SFail}, "semidet"
		default:
			kinds := []string{"semidet", "multi", "nondet"}
			calls := []string{"maybe", "some", "any"}
			n := d.Intn(3)
			*s, is = api.Sched{Kind: api.SCall, Proc: api.ProcId{Pred: key(calls[n], 0)}}, kinds[n]
		}
	})
	return g, is
}

// copied is a goal that shares no goals with another one.
func copied(g api.Sched) api.Sched {
	var list []api.Sched
	for _, part := range g.Goals {
		list = append(list, copied(part))
	}
	g.Goals = list
	return g
}

// P9.2: sources whose procedures are closed.
func TestClosedSources(t *testing.T) {
	for _, source := range []string{
		appendSource[:strings.Index(appendSource, "mode append(out")] + "append(nil, Y, Y). append(cons(H, T), Y, cons(H, Z)) :- append(T, Y, Z).",
		"type nat = z | s(nat). pred max(nat, nat, nat). mode max(in, in, out) is det. max(z, X, X). max(s(X), z, s(X)). max(s(X), s(Y), s(Z)) :- max(X, Y, Z).",
		"type e = num(int) | plus(e, e) | minus(e, e). pred val(e, int). mode val(in, out) is det. val(num(X), X)." +
			"val(plus(A, B), X) :- val(A, Y), val(B, Z), add(Y, Z, X). val(minus(A, B), X) :- val(A, Y), val(B, Z), sub(Y, Z, X).",
		"type bool = no | yes. pred xor(bool, bool, bool). mode xor(in, in, out) is det. xor(no, no, no). xor(yes, no, yes). xor(no, yes, yes). xor(yes, yes, no).",
		"type pair(A, B) = pair(A, B). pred turn(pair(A, B), pair(B, A)). mode turn(in, out) is det. mode turn(out, in) is det. turn(pair(X, Y), pair(Y, X)).",
		"pred zero(int). mode zero(out) is det. zero(0). pred same(T, T). mode same(in, out) is det. same(X, X). pred yes. mode yes is det. yes.",
	} {
		items, err := parse.Source(source)
		held(t, source, err, nil)
		x, procs, err := detism.Compile(items)
		held(t, source, err, nil)
		for _, p := range procs {
			held(t, source, inferred(t, source, x, p), "det")
		}
		if len(procs) == 0 {
			t.Error(source)
		}
	}
}

// marked is an SOr whose goals are told apart by a mark at the end of each.
func (d goals) marked() api.Sched {
	s := d.or(1)
	for range d.Intn(3) {
		s.Goals = append(s.Goals, d.or(1).Goals...)
	}
	for i, g := range s.Goals {
		list := append(slices.Clone(rowOf(g)), api.Sched{Kind: api.SLoad, X: variables, Int: 1000 + i})
		s.Goals[i] = api.Sched{Kind: api.SAnd, Goals: list}
	}
	return s
}

// markOf is a goal's mark; -1 if it has none.
func markOf(g api.Sched) int {
	if g.Kind != api.SAnd || len(g.Goals) == 0 {
		return -1
	}
	if last := g.Goals[len(g.Goals)-1]; last.Kind == api.SLoad && last.X == variables {
		return last.Int - 1000
	}
	return -1
}

// leaf is goals of an SOr that its switches leave beside each other, and which constructors lead to them.
type leaf struct {
	facts []fact
	goals []api.Sched
}

// leaves are all of a switch of marked goals.
func leaves(g api.Sched, facts []fact) []leaf {
	switch {
	case markOf(g) >= 0:
		return []leaf{{facts, []api.Sched{g}}}
	case g.Kind == api.SOr:
		return []leaf{{facts, g.Goals}}
	}
	var all []leaf
	for i, c := range g.Cases {
		all = append(all, leaves(g.Goals[i], append(slices.Clone(facts), fact{g.X, c}))...)
	}
	return all
}

// P9.3: a switch has each goal of its SOr once, where the constructors lead for which it asks, in their order.
func TestEachGoalOnce(t *testing.T) {
	d := newGoals(t, 4)
	switches, several := 0, 0
	for range 2500 {
		p := d.proc(d.marked())
		what, goals := text(p.Goal), p.Goal.Goals
		got := detism.Switches(d.x, p).Goal
		var marks []int
		for _, l := range leaves(got, nil) {
			own := l.marks(t, what, goals)
			marks = append(marks, own...)
			if len(l.facts) > 0 && len(own) > 1 {
				several++
			}
		}
		slices.Sort(marks)
		held(t, what, len(marks), len(goals))
		for i, mark := range marks {
			held(t, what, mark, i)
		}
		if got.Kind == api.SSwitch {
			switches++
			held(t, what, len(got.Cases) >= 2, true)
			held(t, what, len(got.Cases), len(got.Goals))
		}
		if t.Failed() {
			return
		}
	}
	if switches < 400 || several < 300 {
		t.Error(switches, several)
	}
}

// marks are those of a leaf's goals, which are increasing. Each goal is the one of the SOr, and asks what leads to it.
func (l leaf) marks(t *testing.T, what string, goals []api.Sched) []int {
	t.Helper()
	var own []int
	for _, g := range l.goals {
		mark := markOf(g)
		own = append(own, mark)
		held(t, what, text(g), text(switchesAgain(goals[mark])))
		for _, f := range l.facts {
			c, ok := asks(goals[mark], f.v)
			held(t, what, ok, true)
			held(t, what, c, f.c)
		}
	}
	held(t, what, slices.IsSorted(own), true)
	return own
}

// P9.3: what is beside an SOr and what is no SOr stays as it is.
func TestElseStays(t *testing.T) {
	d := newGoals(t, 5)
	for range 3000 {
		p := d.proc(d.goal(3))
		before, after := leftOf(p.Goal), leftOf(detism.Switches(d.x, p).Goal)
		slices.Sort(before)
		slices.Sort(after)
		held(t, text(p.Goal), after, before)
	}
}

// leftOf tells of each goal without goals within it what it is, and of the others, but an SOr or a switch, that they are there.
func leftOf(g api.Sched) []string {
	var list []string
	within(&g, func(s *api.Sched) {
		switch s.Kind {
		case api.SOr, api.SSwitch:
		case api.SAnd, api.SNot, api.STry:
			list = append(list, fmt.Sprint(s.Kind, " ", s.X, " ", len(s.Goals)))
		default:
			list = append(list, text(*s))
		}
	})
	return list
}
