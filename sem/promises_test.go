package sem_test

import (
	"fmt"
	"testing"

	"augur/api"
	"augur/sem"
)

// tally counts what thrown runs are like, so that tests can ask whether they were of all sorts.
type tally map[string]int

func (c tally) note(list []api.Outcome, w *sheet) {
	c[fmt.Sprint("end ", w.end)]++
	c[fmt.Sprint("outcomes ", min(len(list), 3))]++
	c[fmt.Sprint("raises ", min(w.raises, 3))]++
	if len(list) > 0 && list[len(list)-1].Raised {
		c[fmt.Sprint("raised behind ", min(len(list)-1, 2))]++
	} else if w.raises > 0 && w.end == sem.Ended {
		c["all caught"]++
	}
	if w.steps > 50 && w.end == sem.Ended {
		c["long"]++
	}
}

func (c tally) most(t *testing.T, least int, kinds ...string) {
	t.Helper()
	for _, kind := range kinds {
		if c[kind] < least {
			t.Errorf("%s: %d of %v", kind, c[kind], c)
		}
	}
}

// fuel is how much a thrown run has: mostly little, as many of them never end.
func (d dice) fuel() int {
	if d.Intn(40) == 0 {
		return 20000
	}
	return one(d, 300, 300, 1000)
}

// P11.1: thrown sources against the second form, with all sorts of fuel and numbers of outcomes.
func TestThrown(t *testing.T) {
	d, counts := newDice(1), tally{}
	for _, s := range sources(t) {
		text, p := s.text, s.program
		for range 12 {
			proc := one(d, p.procs[libraryProcs:]...)
			in, fuel := d.inputs(p, proc), d.fuel()
			what := text + form(proc.Id) + form(in)
			_, w := agree(t, what, p, proc.Id, in, fuel)
			list, _, _ := p.outcomes(proc.Id, in, fuel, unlimited)
			counts.note(list, w)
			fuel = d.Intn(min(w.steps, 500) + 2)
			agree(t, what, p, proc.Id, in, fuel)
			agreeFor(t, what, p, proc.Id, in, w.steps, d.Intn(len(list)+2))
			agreeFor(t, what, p, proc.Id, in, fuel, d.Intn(len(list)+2))
		}
	}
	counts.most(t, 10, "end 1", "end 2", "end 3", "end 4", "outcomes 0", "outcomes 1", "outcomes 2", "outcomes 3", "raises 0", "raises 1", "raises 2", "raises 3",
		"raised behind 0", "raised behind 1", "raised behind 2", "all caught", "long")
}

// isPrefix asks that outcomes are the first ones of others.
func isPrefix(t *testing.T, what string, list, longer []api.Outcome) {
	t.Helper()
	if len(list) > len(longer) || form(list) != form(longer[:len(list)]) {
		t.Fatalf("%s:\n%s, not the first ones of\n%s", what, told(list, sem.Ended), told(longer, sem.Ended))
	}
}

// P11.2: with or without switches, and with lists within lists, the outcomes are the same.
func TestSwitches(t *testing.T) {
	d, counts := newDice(2), map[string]int{}
	for _, s := range sources(t) {
		text, p, plain := s.text, s.program, s.plain
		some := program{p.x, nil}
		for i := range p.procs {
			some.procs = append(some.procs, one(d, p.procs[i], plain.procs[i]))
		}
		deep := program{p.x, nil}
		for _, proc := range some.procs {
			proc.Goal = d.nested(proc.Goal)
			deep.procs = append(deep.procs, proc)
		}
		for range 6 {
			proc := one(d, p.procs[libraryProcs:]...)
			in, fuel := d.inputs(p, proc), d.fuel()
			what := text + form(proc.Id) + form(in)
			list, end, err := sem.Solve(p.x, p.procs, proc.Id, in, sem.MaxSteps/20, unlimited)
			held(t, what, err, nil)
			for _, q := range []program{plain, some, deep} {
				agree(t, what, q, proc.Id, in, fuel)
				other, otherEnd, err := sem.Solve(q.x, q.procs, proc.Id, in, sem.MaxSteps/10, unlimited)
				held(t, what, err, nil)
				switch {
				case end == sem.Ended && otherEnd == sem.Ended:
					held(t, what, form(other), form(list))
					if len(other) > 1 {
						counts["ended"]++
					}
				case end == sem.Ended:
					isPrefix(t, what, other, list)
				case otherEnd == sem.Ended:
					isPrefix(t, what, list, other)
				default:
					counts["aborted"]++
				}
			}
		}
		if form(p.procs) != form(plain.procs) {
			counts["switched"]++
		}
	}
	tally(counts).most(t, 100, "ended", "aborted", "switched")
}

// P11.3: more fuel leads to the same outcomes, and possibly more.
func TestMoreFuel(t *testing.T) {
	d, counts := newDice(3), tally{}
	for _, s := range sources(t) {
		text, p := s.text, s.program
		proc := one(d, p.procs[libraryProcs:]...)
		in := d.inputs(p, proc)
		what := text + form(proc.Id) + form(in)
		steps, raises, end, _ := sem.Steps(p.x, p.procs, proc.Id, in, 150)
		all, _, _ := sem.Solve(p.x, p.procs, proc.Id, in, 150, unlimited)
		var list []api.Outcome
		raised := 0
		for fuel := range steps + 1 {
			more, how, err := sem.Solve(p.x, p.procs, proc.Id, in, fuel, unlimited)
			held(t, what, err, nil)
			isPrefix(t, what, list, more)
			n, r, also, err := sem.Steps(p.x, p.procs, proc.Id, in, fuel)
			held(t, what, []any{n, also, err}, []any{fuel, how, nil})
			if r < raised || fuel < steps && how != sem.Fuel {
				t.Fatalf("%s, fuel %d: %d raises, %d", what, fuel, r, how)
			}
			list, raised = more, r
		}
		held(t, what, []any{form(list), raised}, []any{form(all), raises})
		counts[fmt.Sprint("end ", end)]++
		counts[fmt.Sprint("outcomes ", min(len(list), 2))]++
	}
	counts.most(t, 20, "end 1", "end 2", "outcomes 0", "outcomes 1", "outcomes 2")
}

// P11.4: a procedure has as many outcomes as declared, if nothing is raised.
func TestDeterminism(t *testing.T) {
	d, counts := newDice(4), tally{}
	for _, s := range sources(t) {
		text, p, plain := s.text, s.program, s.plain
		for range 8 {
			proc := one(d, p.procs[libraryProcs:]...)
			in := d.inputs(p, proc)
			what := text + form(proc.Id) + form(in)
			for _, q := range []program{p, plain} {
				_, raises, end, err := sem.Steps(q.x, q.procs, proc.Id, in, 3000)
				held(t, what, err, nil)
				if raises > 0 || end != sem.Ended {
					continue
				}
				list, _, _ := sem.Solve(q.x, q.procs, proc.Id, in, 3000, unlimited)
				few := proc.Det == api.Det || proc.Det == api.Semidet
				atLeastOne := proc.Det == api.Det || proc.Det == api.Multi
				if few && len(list) > 1 || atLeastOne && len(list) == 0 {
					t.Errorf("%s: %d outcomes", what, len(list))
				}
				counts[fmt.Sprint(proc.Det, " ", min(len(list), 2))]++
			}
		}
	}
	counts.most(t, 30, "1 1", "2 0", "2 1", "3 1", "3 2", "4 0", "4 1", "4 2")
	held(t, "kinds", len(counts), 8)
}
