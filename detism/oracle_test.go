package detism_test

import (
	"slices"
	"testing"

	"augur/api"
	"augur/detism"
	"augur/flat"
	"augur/modes"
	"augur/names"
	"augur/parse"
	"augur/types"
)

// The document once more, in another form: what a goal asks is asked by variable, spent variables are a list, what may fail,
// what may be many and what is refused are told by one function each, and what is known is a list, too.

// headOf is the head of a goal.
func headOf(g api.Sched) []api.Sched {
	list := rowOf(g)
	isHead := func(s api.Sched) bool {
		return s.Kind == api.SMatch || s.Kind == api.SBuild || s.Kind == api.SCopy || s.Kind == api.SLoad
	}
	end := slices.IndexFunc(list, func(s api.Sched) bool { return !isHead(s) })
	if end < 0 {
		return list
	}
	return list[:end]
}

// rowOf is the list of a goal.
func rowOf(g api.Sched) []api.Sched {
	if g.Kind == api.SAnd {
		return g.Goals
	}
	return []api.Sched{g}
}

// asks tells whether a goal asks a variable, and for which constructor.
func asks(g api.Sched, v int) (api.Key, bool) {
	head := headOf(g)
	for i, s := range head {
		gives := func(s api.Sched) bool { return slices.Contains(slices.Collect(modes.Binds(s)), v) }
		if s.Kind == api.SMatch && s.X == v && !slices.ContainsFunc(head[:i], gives) {
			return s.Ctor, true
		}
	}
	return api.Key{}, false
}

// asking are the goals that ask a variable for a constructor.
func asking(list []api.Sched, v int, c api.Key) []api.Sched {
	var found []api.Sched
	for _, g := range list {
		if k, ok := asks(g, v); ok && k == c {
			found = append(found, g)
		}
	}
	return found
}

// askedFor are the constructors for which all goals ask of a variable; none if one doesn't ask it.
func askedFor(list []api.Sched, v int) []api.Key {
	var cases []api.Key
	for _, g := range list {
		c, ok := asks(g, v)
		if !ok {
			return nil
		}
		if !slices.Contains(cases, c) {
			cases = append(cases, c)
		}
	}
	return cases
}

// orAgain is an SOr of goals with its switches, where some variables are spent.
func orAgain(list []api.Sched, spent []int) api.Sched {
	if len(list) > 0 {
		for _, s := range headOf(list[0]) {
			if s.Kind != api.SMatch || slices.Contains(spent, s.X) {
				continue
			}
			if cases := askedFor(list, s.X); len(cases) >= 2 {
				return switchAgain(list, s.X, cases, spent)
			}
		}
	}
	return api.Sched{Kind: api.SOr, Goals: eachAgain(list)}
}

func switchAgain(list []api.Sched, v int, cases []api.Key, spent []int) api.Sched {
	s := api.Sched{Kind: api.SSwitch, X: v, Cases: cases}
	for _, c := range cases {
		own := asking(list, v, c)
		if len(own) == 1 {
			s.Goals = append(s.Goals, switchesAgain(own[0]))
		} else {
			s.Goals = append(s.Goals, orAgain(own, append([]int{v}, spent...)))
		}
	}
	return s
}

func eachAgain(list []api.Sched) []api.Sched {
	var made []api.Sched
	for _, g := range list {
		made = append(made, switchesAgain(g))
	}
	return made
}

// switchesAgain is a goal with its switches.
func switchesAgain(g api.Sched) api.Sched {
	if g.Kind == api.SOr {
		return orAgain(g.Goals, nil)
	}
	g.Goals = eachAgain(g.Goals)
	return g
}

// fact is a variable's constructor.
type fact struct {
	v int
	c api.Key
}

// sheet is what the table's rows hang on.
type sheet struct {
	x     api.Index
	types []api.Type
}

// all are the constructors of a variable's type.
func (w sheet) all(v int) []api.Key {
	var list []api.Key
	for _, c := range w.x.Ctors {
		if c.Type == w.types[v].Name {
			list = append(list, c.Key)
		}
	}
	return list
}

// det is how the mode of a call is declared.
func (w sheet) det(s api.Sched) int {
	p, _ := names.Pred(w.x, s.Proc.Pred)
	return p.Modes[s.Proc.Mode].Det
}

func (w sheet) mayFail(g api.Sched, facts []fact) bool {
	fails := func(s api.Sched) bool { return w.mayFail(s, facts) }
	switch g.Kind {
	case api.SFail, api.STest, api.SIs, api.SNot:
		return true
	case api.SMatch:
		for _, f := range slices.Backward(facts) {
			if f.v == g.X {
				return f.c != g.Ctor && len(w.all(g.X)) != 1
			}
		}
		return len(w.all(g.X)) != 1
	case api.SCall:
		return w.det(g)%2 == 0
	case api.SAnd:
		if len(g.Goals) == 0 {
			return false
		}
		first, rest := g.Goals[0], api.Sched{Kind: api.SAnd, Goals: g.Goals[1:]}
		after := facts
		if first.Kind == api.SMatch {
			after = append(slices.Clone(facts), fact{first.X, first.Ctor})
		}
		return fails(first) || w.mayFail(rest, after)
	case api.SOr:
		return !slices.ContainsFunc(g.Goals, func(s api.Sched) bool { return !fails(s) })
	case api.STry:
		return slices.ContainsFunc(g.Goals, fails)
	case api.SSwitch:
		for _, c := range w.all(g.X) {
			if !slices.Contains(g.Cases, c) {
				return true
			}
		}
		for i, c := range g.Cases {
			if w.mayFail(g.Goals[i], append(slices.Clone(facts), fact{g.X, c})) {
				return true
			}
		}
	}
	return false
}

func (w sheet) mayBeMany(g api.Sched) bool {
	switch g.Kind {
	case api.SCall:
		return w.det(g) > 2
	case api.SOr:
		return true
	case api.SAnd, api.SSwitch:
		return slices.ContainsFunc(g.Goals, w.mayBeMany)
	}
	return false
}

// isRefused tells whether a goal has an SNot or STry within it with a goal that may be many.
func (w sheet) isRefused(g api.Sched) bool {
	single := g.Kind == api.SNot || g.Kind == api.STry
	return single && slices.ContainsFunc(g.Goals, w.mayBeMany) || slices.ContainsFunc(g.Goals, w.isRefused)
}

// is is what a procedure of a goal is, as a word; "" if it is refused.
func (w sheet) is(g api.Sched) string {
	switch {
	case w.isRefused(g):
		return ""
	case w.mayFail(g, nil) && w.mayBeMany(g):
		return "nondet"
	case w.mayFail(g, nil):
		return "semidet"
	case w.mayBeMany(g):
		return "multi"
	}
	return "det"
}

// again holds a procedure, with its switches and without them, against the document once more, and tells what it is with them.
func again(t *testing.T, what string, x api.Index, p api.Proc) string {
	t.Helper()
	w := sheet{x, p.Types}
	before := inferred(t, what, x, p)
	held(t, what, before, w.is(p.Goal))
	want := p
	want.Goal = switchesAgain(p.Goal)
	got := detism.Switches(x, p)
	held(t, what, text(got.Goal), text(want.Goal))
	held(t, what, got, want)
	held(t, what, detism.Switches(x, got), got)
	is := inferred(t, what, x, got)
	held(t, what, is, w.is(want.Goal))
	held(t, what, checked(t, what, x, got), accepted(is))
	return is
}

// switchesIn is how many switches are in a goal, and how many of them in a case of another one directly.
func switchesIn(g api.Sched) (all, nested int) {
	for _, part := range g.Goals {
		a, n := switchesIn(part)
		all, nested = all+a, nested+n
		if g.Kind == api.SSwitch && part.Kind == api.SSwitch {
			nested++
		}
	}
	if g.Kind == api.SSwitch {
		all++
	}
	return all, nested
}

// P9.1: thrown goals of all shapes.
func TestGoalsAgain(t *testing.T) {
	d := newGoals(t, 1)
	counts, made, nested := map[string]int{}, 0, 0
	for range 12000 {
		p := d.proc(one(d.dice, d.or, d.goal)(one(d.dice, 1, 1, 2)))
		counts[again(t, text(p.Goal), d.x, p)]++
		all, within := switchesIn(detism.Switches(d.x, p).Goal)
		before, withinBefore := switchesIn(p.Goal)
		made, nested = made+all-before, nested+within-withinBefore
		if t.Failed() {
			return
		}
	}
	for _, word := range words() {
		if counts[word] < 150 {
			t.Error(word, counts)
		}
	}
	if made < 3000 || nested < 400 {
		t.Error(made, nested)
	}
}

// compiledAgain is what the layers say of a source, one after the other.
func compiledAgain(t *testing.T, text string, items []api.Item) (api.Index, []api.Proc, error) {
	x, err := names.Resolve(items)
	if err != nil {
		return api.Index{}, nil, err
	}
	var procs []api.Proc
	for _, p := range x.Preds {
		if names.Builtin(p.Key) {
			continue
		}
		b, err := flat.Flatten(items, x, p.Key)
		if err != nil {
			return api.Index{}, nil, err
		}
		list, err := types.Infer(x, b)
		if err != nil {
			return api.Index{}, nil, err
		}
		for mode, m := range p.Modes {
			proc, err := modes.Schedule(x, b, list, mode)
			if err != nil {
				return api.Index{}, nil, err
			}
			is := again(t, text, x, proc)
			if is == "" || !isWithin(is, words()[m.Det]) {
				return api.Index{}, nil, api.ErrDet
			}
			proc.Goal = switchesAgain(proc.Goal)
			procs = append(procs, proc)
		}
	}
	return x, procs, nil
}

// isWithin tells whether what is something may be declared so.
func isWithin(is, declared string) bool {
	return is == "det" || is == declared || declared == "nondet"
}

// P9.1: thrown sources, of which some are refused by each layer.
func TestSourcesAgain(t *testing.T) {
	d := newDice(2)
	counts, switches := map[error]int{}, 0
	for range 8000 {
		text := d.source()
		items, err := parse.Source(text)
		held(t, text, err, nil)
		x, procs, err := detism.Compile(items)
		wantX, wantProcs, wantErr := compiledAgain(t, text, items)
		held(t, text, err, wantErr)
		held(t, text, x, wantX)
		held(t, text, procs, wantProcs)
		counts[err]++
		for _, p := range procs {
			all, _ := switchesIn(p.Goal)
			switches += all
			got, ok := detism.Find(procs, p.Id)
			held(t, text, got, p)
			held(t, text, ok, true)
		}
		if t.Failed() {
			return
		}
	}
	if counts[nil] < 800 || counts[api.ErrModes] < 2000 || counts[api.ErrDet] < 2000 || switches < 150 {
		t.Error(counts, switches)
	}
}
