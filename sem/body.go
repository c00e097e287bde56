package sem

import (
	"slices"

	"augur/api"
	"augur/names"
)

// body is the body of a procedure that is run.
type body struct {
	*run
	nest int
}

// goal enters a goal, and returns what the run does next; then is what it does with each solution.
func (b body) goal(g api.Sched, v *values, then solution) next {
	b.step()
	switch g.Kind {
	case api.SAnd:
		return b.list(g.Goals, v, then)
	case api.SOr:
		return b.or(g.Goals, v, then)
	case api.SSwitch:
		return b.cases(g, v, then)
	case api.SNot:
		return b.not(part(g, 0), v, then)
	case api.STry:
		return b.try(g, v, then)
	case api.SCall:
		if !names.Builtin(g.Proc.Pred) {
			return b.call(g, v, then)
		}
	}
	w, ok := b.plain(g, v)
	if !ok {
		return b.fail()
	}
	return func() next { return then(w) }
}

// plain is the values behind a goal that has no goals within it, and calls no procedure; false if it fails.
func (b body) plain(g api.Sched, v *values) (*values, bool) {
	switch g.Kind {
	case api.STrue:
		return v, true
	case api.SCopy:
		return v.with(g.X, v.at(g.Y)), true
	case api.STest:
		return v, same(v.at(g.X), v.at(g.Y))
	case api.SLoad:
		return v.with(g.X, number(g.Int)), true
	case api.SIs:
		return v, v.at(g.X).isInt(g.Int)
	case api.SBuild:
		return v.with(g.X, build(g, v)), true
	case api.SMatch:
		return match(g, v)
	case api.SThrow:
		b.raise(v.at(g.X).int)
	case api.SCall:
		return b.builtin(g, v)
	}
	return nil, false
}

// build is the structure that an SBuild makes.
func build(g api.Sched, v *values) *term {
	t := structure(g.Ctor.Name, v.all(g.Args))
	if !t.good() {
		panic(broken(Large))
	}
	return t
}

// match is the values behind an SMatch; false if it fails.
func match(g api.Sched, v *values) (*values, bool) {
	t := v.at(g.X)
	if !t.ctor || t.key != (api.Key{Name: g.Ctor.Name, Arity: len(g.Args)}) {
		return nil, false
	}
	for i, arg := range t.args {
		v = v.with(g.Args[i], arg)
	}
	return v, true
}

// builtin is the values behind a call of a predicate that is built in; false if it fails.
func (b body) builtin(g api.Sched, v *values) (*values, bool) {
	if len(g.Args) != g.Proc.Pred.Arity {
		return nil, false
	}
	result, code := Arith(g.Proc.Pred.Name, v.at(g.Args[0]).int, v.at(g.Args[1]).int)
	if code != 0 {
		b.raise(code)
	}
	if len(g.Args) == 2 {
		return v, result == 1
	}
	return v.with(g.Args[2], number(result)), true
}

// list enters goals one behind the other.
func (b body) list(goals []api.Sched, v *values, then solution) next {
	switch len(goals) {
	case 0:
		return then(v)
	case 1:
		return b.goal(goals[0], v, then)
	}
	return b.goal(goals[0], v, func(w *values) next { return b.list(goals[1:], w, then) })
}

// or enters the first one of goals; the others are choices.
func (b body) or(goals []api.Sched, v *values, then solution) next {
	if len(goals) == 0 {
		return b.fail()
	}
	if len(goals) > 1 {
		b.choose(func() next { return b.or(goals[1:], v, then) })
	}
	return b.goal(goals[0], v, then)
}

// cases enters the goal of one of a switch's cases.
func (b body) cases(g api.Sched, v *values, then solution) next {
	t := v.at(g.X)
	at := slices.Index(g.Cases, t.key)
	if !t.ctor || at < 0 {
		return b.fail()
	}
	return b.goal(part(g, at), v, then)
}

// not enters a goal by itself: that it fails is a choice, with which the run goes on.
func (b body) not(g api.Sched, v *values, then solution) next {
	before := b.mark()
	b.choose(func() next { return then(v) })
	return b.goal(g, v, func(*values) next {
		b.cut(before)
		return b.fail()
	})
}

// try enters the first goal of an STry by itself, under a guard that lasts up to its first solution.
func (b body) try(g api.Sched, v *values, then solution) next {
	before := b.mark()
	b.guards = append(b.guards, func(code int) next {
		b.cut(before)
		return b.goal(part(g, 1), v.with(g.X, number(code)), then)
	})
	return b.goal(part(g, 0), v, func(w *values) next {
		b.cut(before)
		return then(w)
	})
}

// call enters the body of a procedure. One that there isn't, which no goal that layers make calls, fails.
func (b body) call(g api.Sched, v *values, then solution) next {
	p, ok := b.proc(g.Proc)
	if !ok {
		return b.fail()
	}
	if b.nest == api.MaxFrames {
		panic(broken(Frames))
	}
	callee := body{b.run, b.nest + 1}
	return callee.goal(p.Goal, handed(p, g.Args, v), func(w *values) next {
		return then(returned(p, g.Args, v, w))
	})
}

// part is one of the goals within a goal. One that is missing, in a goal that no layer makes, fails.
func part(g api.Sched, at int) api.Sched {
	if at < len(g.Goals) {
		return g.Goals[at]
	}
	return api.Sched{Kind: api.SFail}
}
