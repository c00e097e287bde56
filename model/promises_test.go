package model_test

import (
	"fmt"
	"regexp"
	"slices"
	"testing"

	"augur/api"
	"augur/data"
	"augur/detism"
	"augur/model"
	"augur/sem"
)

// tally counts what tests have seen, so that they can ask whether it was of all sorts.
type tally map[string]int

func (c tally) most(t *testing.T, least int, kinds ...string) {
	t.Helper()
	for _, kind := range kinds {
		if c[kind] < least {
			t.Errorf("%s: %d of %v", kind, c[kind], c)
		}
	}
}

const unlimited = 1 << 40

// proc is the procedure with an id.
func (s source) proc(t *testing.T, id api.ProcId) api.Proc {
	t.Helper()
	p, ok := detism.Find(s.procs, id)
	if !ok {
		t.Fatalf("%s\nhas no %v", s.text, id)
	}
	return p
}

// quiet is how many steps of a call's ordered run are made ahead of the first number that is raised, up to the fuel.
func (s source) quiet(t *testing.T, id api.ProcId, in []api.Data, fuel int) int {
	t.Helper()
	steps, raises, _, err := sem.Steps(s.x, s.procs, id, in, fuel)
	if err != nil || raises == 0 {
		return fuel
	}
	least, most := 0, steps
	for least < most {
		half := (least + most + 1) / 2
		if _, raises, _, _ = sem.Steps(s.x, s.procs, id, in, half); raises == 0 {
			least = half
		} else {
			most = half - 1
		}
	}
	return least
}

// ordered asks of a call what P12.2 says: that the solutions of the ordered run, as long as nothing is raised, are tuples, and are all
// of them, if it ends.
func (c tally) ordered(t *testing.T, s source, id api.ProcId, in []api.Data, fuel int) {
	t.Helper()
	set, end, err := model.Solutions(s.items, s.x, id, in, fuel)
	what := fmt.Sprintf("%s\n%v of %s", s.text, id, form(in))
	held(t, what, err, nil)
	c[fmt.Sprint("end ", end)]++
	if end != model.Ended {
		return
	}
	quiet := s.quiet(t, id, in, fuel)
	outcomes, how, err := sem.Solve(s.x, s.procs, id, in, quiet, unlimited)
	held(t, what, err, nil)
	var solutions [][]api.Data
	for _, o := range outcomes {
		solutions = append(solutions, model.Tuple(o, s.proc(t, id), in))
	}
	kind := "some"
	if quiet == fuel && how == sem.Ended {
		kind = "same"
		if len(solutions) > len(set) {
			c["often"]++
		}
	} else if quiet < fuel {
		c["raised"]++
	}
	slices.SortFunc(solutions, compare)
	solutions = slices.CompactFunc(solutions, same)
	for _, tuple := range solutions {
		if !slices.ContainsFunc(set, func(one []api.Data) bool { return same(one, tuple) }) {
			t.Fatalf("%s: %s is none of %s", what, shown(tuple), told(set, end))
		}
	}
	if kind == "same" && len(solutions) < len(set) {
		t.Fatalf("%s: the run has %s, not %s", what, told(solutions, end), told(set, end))
	}
	c[kind]++
	c[fmt.Sprint(kind, " ", min(len(set), 3))]++
}

func compare(a, b []api.Data) int { return slices.CompareFunc(a, b, data.Compare) }
func same(a, b []api.Data) bool   { return compare(a, b) == 0 }

// modes asks of a call what P12.3 says: its tuples are found in each other mode, if that search ends.
func (c tally) modes(t *testing.T, s source, id api.ProcId, in []api.Data, fuel int) {
	t.Helper()
	set, end, err := model.Solutions(s.items, s.x, id, in, fuel)
	held(t, s.text, err, nil)
	if end != model.Ended {
		return
	}
	for _, p := range s.procs {
		if p.Id.Pred != id.Pred || p.Id == id {
			continue
		}
		for _, tuple := range set {
			var own []api.Data
			for i, isIn := range p.In {
				if isIn {
					own = append(own, tuple[i])
				}
			}
			other, end, err := model.Solutions(s.items, s.x, p.Id, own, fuel)
			held(t, s.text+shown(tuple), err, nil)
			c[fmt.Sprint("other end ", end)]++
			if end != model.Ended {
				continue
			}
			if !slices.ContainsFunc(other, func(one []api.Data) bool { return same(one, tuple) }) {
				t.Fatalf("%s\n%v: %s isn't found in %v", s.text, id, shown(tuple), p.Id)
			}
			c["in another mode"]++
		}
	}
}

// note counts what a search was like.
func (c tally) note(w *sheet) {
	c[fmt.Sprint("end ", w.end)]++
	c[fmt.Sprint("nest ", min(w.deepest, 3))]++
	for kind, times := range w.kinds {
		c["goal "+kind] += times
	}
	if w.steps > 50 && w.end == model.Ended {
		c["long"]++
	}
}

// searched asks for calls of a source what the second form answers, with all sorts of fuel.
func (c tally) searched(t *testing.T, d dice, s source, calls int) {
	t.Helper()
	for range calls {
		id, in := d.call(s)
		_, w := agree(t, s, id, in, one(d, 100, 300, 300, 1000))
		c.note(w)
		agree(t, s, id, in, d.Intn(w.steps+2))
	}
}

// goals are the kinds of goals, with what becomes of them: nothing, one place to go on at, or several.
func goals() []string {
	var kinds []string
	for _, kind := range []int{api.FSame, api.FInt, api.FCtor, api.FCall, api.FNot} {
		kinds = append(kinds, fmt.Sprintf("goal %d to 0", kind), fmt.Sprintf("goal %d to 1", kind))
	}
	return append(kinds, fmt.Sprintf("goal %d to 1", api.FTrue), fmt.Sprintf("goal %d to 0", api.FFail), fmt.Sprintf("goal %d to 1", api.FTry),
		fmt.Sprintf("goal %d to 1", api.FAnd), fmt.Sprintf("goal %d to 2", api.FOr), fmt.Sprintf("goal %d to 2", api.FCall))
}

// P12.1: thrown sources that needn't be compiled, against the second form.
func TestThrown(t *testing.T) {
	d, counts := newDice(2), tally{}
	for range 1500 {
		counts.searched(t, d, d.loose(t, 1+d.Intn(4)), 4)
	}
	counts.most(t, 50, goals()...)
	counts.most(t, 100, "end 1", "end 2", "end 4", "end 5", "nest 1", "nest 2", "nest 3")
}

// P12.1: thrown sources that are compiled.
func TestThrownCompiled(t *testing.T) {
	d, counts := newDice(3), tally{}
	for _, s := range strictSources(t) {
		counts.searched(t, d, s, 8)
	}
	counts.most(t, 50, goals()...)
	counts.most(t, 50, "end 1", "end 2", "end 5", "nest 1", "nest 2", "nest 3", "long")
	// What stops is the scheduling of a source, so a search of one that is compiled isn't stuck.
	held(t, "stuck", counts["end 4"], 0)
}

// P12.2: what an ordered run finds is what a search finds.
func TestOrder(t *testing.T) {
	d, counts := newDice(4), tally{}
	for _, s := range strictSources(t) {
		for range 20 {
			id, in := d.call(s)
			counts.ordered(t, s, id, in, 5000)
		}
	}
	counts.most(t, 20, "same 0", "same 1", "same 2", "same 3", "some 1", "some 3", "often", "raised")
}

// P12.3: all modes of a predicate agree.
func TestModes(t *testing.T) {
	d, counts := newDice(5), tally{}
	for _, s := range strictSources(t) {
		for range 20 {
			id, in := d.call(s)
			counts.modes(t, s, id, in, 5000)
		}
	}
	counts.most(t, 500, "in another mode")
}

// P12.1, rule 6, P7: names of variables, other predicates and where they stand have no effect.
func TestUnrelated(t *testing.T) {
	d := newDice(6)
	for _, s := range strictSources(t) {
		renamed := read(t, regexp.MustCompile(`\bV(\d+)`).ReplaceAllString(s.text, "_Other$1"))
		longer := read(t, "pred z(int). mode z(out) is det. z(1). type z = z(z).\n"+s.text+"pred y. mode y is det. y :- z(_).")
		for range 4 {
			id, in := d.call(s)
			want := s.solve(t, id, in, 300)
			held(t, s.text, renamed.solve(t, id, in, 300), want)
			held(t, s.text, longer.solve(t, id, in, 300), want)
		}
	}
}
