package sem_test

import (
	"maps"
	"slices"
	"testing"

	"augur/api"
	"augur/data"
	"augur/names"
	"augur/sem"
)

// The document once more, in another form: a goal calls what follows it with each solution, the values of variables are a map that
// is copied wherever it grows, and what ends a search is returned.

// why is why a search goes on no further.
type why struct{ raised, enough, aborted bool }

// sheet is what is noted in a run.
type sheet struct {
	procs               []api.Proc
	fuel, steps, raises int
	code, end           int // of what is raised, or aborted
}

type env map[int]api.Data

func (e env) and(v int, d api.Data) env {
	e = maps.Clone(e)
	if e == nil {
		e = env{}
	}
	e[v] = d
	return e
}

func (w *sheet) abort(end int) why {
	w.end = end
	return why{aborted: true}
}

func (w *sheet) raise(code int) why {
	w.raises++
	w.code = code
	return why{raised: true}
}

// solve goes over a goal's solutions until each, which is called with every one, says why to stop, or something else ends it.
func (w *sheet) solve(g api.Sched, e env, nest int, each func(env) why) why {
	if w.steps == w.fuel {
		return w.abort(sem.Fuel)
	}
	w.steps++
	if holds, ok := w.asks(g, e); ok {
		if holds {
			return each(e)
		}
		return why{}
	}
	switch g.Kind {
	case api.SCopy:
		return each(e.and(g.X, e[g.Y]))
	case api.SLoad:
		return each(e.and(g.X, number(g.Int)))
	case api.SBuild:
		d := made(g.Ctor.Name)
		for _, v := range g.Args {
			d.Args = append(d.Args, e[v])
		}
		if !data.Good(d) {
			return w.abort(sem.Large)
		}
		return each(e.and(g.X, d))
	case api.SMatch:
		d := e[g.X]
		if !d.Ctor || d.Name != g.Ctor.Name || len(d.Args) != g.Ctor.Arity {
			return why{}
		}
		for i, v := range g.Args {
			e = e.and(v, d.Args[i])
		}
		return each(e)
	case api.SThrow:
		return w.raise(e[g.X].Int)
	case api.SCall:
		return w.call(g, e, nest, each)
	}
	return w.whole(g, e, nest, each)
}

// asks tells whether a goal that gives no values holds; false if it isn't such a goal.
func (w *sheet) asks(g api.Sched, e env) (holds, ok bool) {
	switch g.Kind {
	case api.STrue, api.SFail:
		return g.Kind == api.STrue, true
	case api.STest:
		return data.Compare(e[g.X], e[g.Y]) == 0, true
	case api.SIs:
		return data.Compare(e[g.X], number(g.Int)) == 0, true
	}
	return false, false
}

// whole is solve for goals with goals within them.
func (w *sheet) whole(g api.Sched, e env, nest int, each func(env) why) why {
	switch g.Kind {
	case api.SAnd:
		if len(g.Goals) == 0 {
			return each(e)
		}
		rest := g
		rest.Goals = g.Goals[1:]
		return w.solve(g.Goals[0], e, nest, func(f env) why { return w.whole(rest, f, nest, each) })
	case api.SOr:
		for _, part := range g.Goals {
			if end := w.solve(part, e, nest, each); end != (why{}) {
				return end
			}
		}
		return why{}
	case api.SSwitch:
		d := e[g.X]
		for i, c := range g.Cases {
			if d.Ctor && c == key(d.Name, len(d.Args)) {
				return w.solve(g.Goals[i], e, nest, each)
			}
		}
		return why{}
	}
	var first env
	end := w.solve(g.Goals[0], e, nest, func(f env) why {
		first = f
		return why{enough: true}
	})
	switch {
	case end.aborted || end.raised && g.Kind == api.SNot:
		return end
	case end.raised:
		return w.solve(g.Goals[1], e.and(g.X, number(w.code)), nest, each)
	case end.enough && g.Kind == api.STry:
		return each(first)
	case !end.enough && g.Kind == api.SNot:
		return each(e)
	}
	return why{}
}

func (w *sheet) call(g api.Sched, e env, nest int, each func(env) why) why {
	if names.Builtin(g.Proc.Pred) {
		a, b := e[g.Args[0]].Int, e[g.Args[1]].Int
		n, code := reckoned(g.Proc.Pred.Name, a, b)
		switch {
		case code != 0:
			return w.raise(code)
		case len(g.Args) == 3:
			return each(e.and(g.Args[2], number(n)))
		case n == 1:
			return each(e)
		}
		return why{}
	}
	at := slices.IndexFunc(w.procs, func(p api.Proc) bool { return p.Id == g.Proc })
	p := w.procs[at]
	if nest == api.MaxFrames {
		return w.abort(sem.Frames)
	}
	var own env
	for i, v := range g.Args {
		if p.In[i] {
			own = own.and(i, e[v])
		}
	}
	return w.solve(p.Goal, own, nest+1, func(f env) why {
		after := e
		for i, v := range g.Args {
			if !p.In[i] {
				after = after.and(v, f[i])
			}
		}
		return each(after)
	})
}

// outcomes is what Solve and Steps should answer for a call that is right, the first one for each most.
func (p program) outcomes(id api.ProcId, in []api.Data, fuel, most int) ([]api.Outcome, int, *sheet) {
	w := &sheet{procs: p.procs, fuel: min(max(fuel, 0), sem.MaxSteps), end: sem.Ended}
	if most < 1 {
		return nil, sem.Ended, w
	}
	called := p.procs[slices.IndexFunc(p.procs, func(q api.Proc) bool { return q.Id == id })]
	var own env
	for i, isIn := range called.In {
		if isIn {
			own, in = own.and(i, in[0]), in[1:]
		}
	}
	var list []api.Outcome
	end := w.solve(called.Goal, own, 1, func(f env) why {
		var o api.Outcome
		for i, isIn := range called.In {
			if !isIn {
				o.Out = append(o.Out, f[i])
			}
		}
		list = append(list, o)
		return why{enough: len(list) == most}
	})
	if end.raised {
		list = append(list, api.Outcome{Raised: true, Code: w.code})
	}
	return list, w.end, w
}

const unlimited = 1 << 40

// agree asks that Solve and Steps answer what the second form does, for some fuel, and returns the text of it.
func agree(t *testing.T, what string, p program, id api.ProcId, in []api.Data, fuel int) (string, *sheet) {
	t.Helper()
	list, end, w := p.outcomes(id, in, fuel, unlimited)
	want := told(list, end)
	got, gotEnd, err := sem.Solve(p.x, p.procs, id, in, fuel, unlimited)
	held(t, what, err, nil)
	if told(got, gotEnd) != want || form(got) != form(list) {
		t.Fatalf("%s, fuel %d:\n%.1500s\n%.1500s", what, fuel, told(got, gotEnd), want)
	}
	steps, raises, stepsEnd, err := sem.Steps(p.x, p.procs, id, in, fuel)
	if steps != w.steps || raises != w.raises || stepsEnd != end || err != nil {
		t.Fatalf("%s, fuel %d: %d steps, %d raises, %d, %v, not %d, %d, %d", what, fuel, steps, raises, stepsEnd, err, w.steps, w.raises, end)
	}
	return want, w
}

// agreeFor asks the same for a number of outcomes.
func agreeFor(t *testing.T, what string, p program, id api.ProcId, in []api.Data, fuel, most int) {
	t.Helper()
	list, end, _ := p.outcomes(id, in, fuel, most)
	got, gotEnd, err := sem.Solve(p.x, p.procs, id, in, fuel, most)
	if form(got) != form(list) || gotEnd != end || err != nil {
		t.Fatalf("%s, fuel %d, most %d:\n%.1500s %d %v\n%.1500s %d", what, fuel, most, form(got), gotEnd, err, form(list), end)
	}
}
