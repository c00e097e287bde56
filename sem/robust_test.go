package sem_test

import (
	"fmt"
	"math"
	"reflect"
	"slices"
	"strings"
	"sync"
	"testing"

	"augur/api"
	"augur/sem"
)

// roomy is a copy of a value that shares nothing with it, in which each list has room beyond its end, with marks in it.
func roomy[T any](value T) T { return roomyValue(reflect.ValueOf(value)).Interface().(T) }

func roomyValue(value reflect.Value) reflect.Value {
	made := reflect.New(value.Type()).Elem()
	made.Set(value)
	switch value.Kind() {
	case reflect.Struct:
		for i := range value.NumField() {
			made.Field(i).Set(roomyValue(value.Field(i)))
		}
	case reflect.Slice:
		list := reflect.MakeSlice(value.Type(), value.Len()+3, value.Len()+3)
		for i := range list.Len() {
			if i < value.Len() {
				list.Index(i).Set(roomyValue(value.Index(i)))
			} else {
				mark(list.Index(i))
			}
		}
		made.Set(list.Slice(0, value.Len()))
	}
	return made
}

// mark makes a value one that no list has.
func mark(value reflect.Value) {
	switch value.Kind() {
	case reflect.Struct:
		for i := range value.NumField() {
			mark(value.Field(i))
		}
	case reflect.Int:
		value.SetInt(-77)
	case reflect.String:
		value.SetString("mark")
	}
}

// visitLists calls visit with each list in a value, up to what it has room for.
func visitLists(value reflect.Value, visit func(reflect.Value)) {
	switch value.Kind() {
	case reflect.Struct:
		for i := range value.NumField() {
			visitLists(value.Field(i), visit)
		}
	case reflect.Slice:
		visit(value.Slice(0, value.Cap()))
		for i := range value.Len() {
			visitLists(value.Index(i), visit)
		}
	}
}

// rooms tells all that a value's lists have room for.
func rooms(value any) string {
	var told strings.Builder
	visitLists(reflect.ValueOf(value), func(list reflect.Value) { told.WriteString(form(list.Interface())) })
	return told.String()
}

// isNew asks that no list of an answer shares memory with another one of it, or with those of other values.
func isNew(t *testing.T, what string, answer any, others ...any) {
	t.Helper()
	type place struct {
		from, to uintptr
		own      bool
	}
	var all []place
	for i, value := range append([]any{answer}, others...) {
		visitLists(reflect.ValueOf(value), func(list reflect.Value) {
			if list.Cap() > 0 {
				from := list.Pointer()
				all = append(all, place{from, from + uintptr(list.Cap())*list.Type().Elem().Size(), i == 0})
			}
		})
	}
	slices.SortFunc(all, func(a, b place) int { return int(int64(a.from) - int64(b.from)) })
	for i := 1; i < len(all); i++ {
		if a, b := all[i-1], all[i]; b.from < a.to && (a.own || b.own) {
			t.Fatalf("%.900s: lists share memory", what)
		}
	}
}

// strange is data with something in the fields that their kind has no use for.
func strange(d api.Data) api.Data {
	if !d.Ctor {
		d.Name, d.Args = "strange", []api.Data{made("x"), number(7)}
		return d
	}
	d.Int = -77
	d.Args = slices.Clone(d.Args)
	for i := range d.Args {
		d.Args[i] = strange(d.Args[i])
	}
	return d
}

// P11.1, rule 4: no call changes what it is given, and what it answers is new memory; what has no use in data doesn't matter.
func TestArgumentsStay(t *testing.T) {
	d, count := newDice(5), 0
	for _, s := range sources(t) {
		p := program{roomy(s.program.x), roomy(s.program.procs)}
		before := rooms(p.x) + rooms(p.procs)
		for range 3 {
			proc := one(d, p.procs[libraryProcs:]...)
			in := roomy(d.inputs(p, proc))
			odd := slices.Clone(in)
			for i := range odd {
				odd[i] = strange(odd[i])
			}
			what, beforeIn := s.text+form(proc.Id)+form(in), rooms(in)
			list, end, err := sem.Solve(p.x, p.procs, proc.Id, in, 300, 20)
			held(t, what, err, nil)
			other, otherEnd, err := sem.Solve(p.x, p.procs, proc.Id, odd, 300, 20)
			held(t, what, err, nil)
			held(t, what, form(other)+form(otherEnd), form(list)+form(end))
			isNew(t, what, list, other, in, odd, p.x, p.procs)
			held(t, what, rooms(in), beforeIn)
			kept := form(list)
			for _, o := range other {
				spoil(o.Out)
			}
			spoil(in)
			held(t, what, form(list), kept)
			types := sem.Inputs(p.x, proc)
			isNew(t, what, types, sem.Inputs(p.x, proc), p.x, p.procs)
			sem.Steps(p.x, p.procs, proc.Id, odd, 300)
			if len(list) > 1 {
				count++
			}
		}
		held(t, s.text, rooms(p.x)+rooms(p.procs), before)
	}
	if count < 50 {
		t.Error(count)
	}
}

// spoil changes all that data consist of.
func spoil(list []api.Data) {
	for i := range list {
		spoil(list[i].Args)
		list[i] = made("spoilt", number(-77))
	}
}

// P11.1, rule 4: also where a run's values share their parts.
func TestSharedValues(t *testing.T) {
	p := programOf(t, "p iooo: [build 4 g 0 0, build 1 g 4 4, copy 2 1, or([build 5 f 1, build 3 g 5 5], copy 3 0, match 1 g 3 6)]")
	in := list(t, "g(f(a), b)")
	got, end, err := sem.Solve(p.x, p.procs, p.procs[0].Id, in, 100, 9)
	held(t, "shared", err, nil)
	held(t, "shared", len(got), 3)
	agree(t, "shared", p, p.procs[0].Id, in, 100)
	isNew(t, "shared", got, in, p.x, p.procs)
	kept := form(got[1:])
	spoil(got[0].Out)
	held(t, "shared", form(got[1:]), kept)
	held(t, "shared", end, sem.Ended)
	held(t, "shared", form(in), form(list(t, "g(f(a), b)")))
}

// odd throws goals and procedures that no layer makes.
type odd struct{ dice }

func (o odd) number() int { return one(o.dice, 0, 1, 2, 3, 4, -1, 600, math.MaxInt, math.MinInt) }

func (o odd) name() string {
	return one(o.dice, "p", "p", "q", "add", "lt", "div", "a", "f", "g", "", "\xff")
}

func (o odd) key() api.Key { return api.Key{Name: o.name(), Arity: o.number()} }

func (o odd) id() api.ProcId {
	p := one(o.dice, key("p", 2), key("p", 2), key("q", 1), key("p", 0), key("add", 3), key("div", 3), key("lt", 2), key("le", 2), o.key())
	return api.ProcId{Pred: p, Mode: one(o.dice, 0, 0, 0, 0, 1, -1)}
}

func (o odd) goal(depth int) api.Sched {
	g := api.Sched{
		Kind: one(o.dice, o.Intn(17), api.STrue, api.SCall, api.SAnd, api.SOr, o.number()), X: o.number(), Y: o.number(), Int: o.number(), Ctor: o.key(),
		Proc: o.id(), Args: repeated(o.Intn(4), o.number), Cases: repeated(o.Intn(3), o.key),
	}
	if o.Intn(2) == 0 {
		g.Ctor.Arity = len(g.Args)
	}
	if depth > 0 {
		g.Goals = repeated(o.Intn(4), func() api.Sched { return o.goal(depth - 1) })
	}
	return g
}

func (o odd) proc() api.Proc {
	p := api.Proc{Id: o.id(), Det: o.number(), Vars: o.number(), Goal: o.goal(3)}
	p.In = repeated(o.Intn(5), func() bool { return o.Intn(2) == 0 })
	return p
}

// P11.1: every call ends without a panic, also for procedures for which nothing is promised, and answers nothing beside an error.
func TestOddArguments(t *testing.T) {
	o, counts := odd{newDice(6)}, tally{}
	x := read(t, structures+"pred p(A, B). mode p(in, out) is nondet. pred q(int). mode q(in) is det. pred p. mode p is det.")
	for range 4000 {
		p := program{x, roomy(repeated(1+o.Intn(3), o.proc))}
		if o.Intn(20) == 0 {
			p.x = api.Index{}
		}
		id := p.procs[0].Id
		before := rooms(p.procs) + rooms(p.x)
		types := sem.Inputs(p.x, p.procs[0])
		in := repeated(len(types), func() api.Data { return one(o.dice, number(2), number(2), made("f", made("a"))) })
		if o.Intn(10) == 0 {
			in = append(in, number(1))
		}
		got, end, err := sem.Solve(p.x, p.procs, id, in, 200, 50)
		steps, raises, stepsEnd, err2 := sem.Steps(p.x, p.procs, id, in, 200)
		what := form(p.procs) + form(in)
		held(t, what, err2, err)
		counts[form(err)]++
		if err != nil {
			held(t, what, []any{got, end, steps, raises, stepsEnd}, []any{[]api.Outcome(nil), 0, 0, 0, 0})
		} else {
			counts[fmt.Sprint("end ", stepsEnd)]++
			counts[fmt.Sprint("outcomes ", min(len(got), 2))]++
			if end < sem.Ended || end > sem.Frames || steps > 200 || len(types) != len(in) {
				t.Fatal(what, end, steps, types)
			}
		}
		again, _, _ := sem.Solve(p.x, p.procs, id, in, 200, 50)
		held(t, what, form(again), form(got))
		isNew(t, what, got, again, in, p.x, p.procs)
		held(t, what, rooms(p.procs)+rooms(p.x), before)
		sem.Arith(o.name(), o.number(), o.number())
	}
	counts.most(t, 20, "<nil>", api.ErrData.Error(), "end 1", "end 2", "outcomes 0", "outcomes 1", "outcomes 2")
	held(t, "nothing", len(sem.Inputs(api.Index{}, api.Proc{})), 0)
	held(t, "more arguments than types", len(sem.Inputs(x, api.Proc{Id: api.ProcId{Pred: key("p", 2)}, In: slices.Repeat([]bool{true}, 9)})), 2)
	got, end, err := sem.Solve(api.Index{}, nil, api.ProcId{}, nil, 10, 10)
	held(t, "nothing", []any{got, end, err}, []any{[]api.Outcome(nil), 0, api.ErrNone})
	got, end, err = sem.Solve(api.Index{}, []api.Proc{{}}, api.ProcId{}, nil, 10, 10)
	held(t, "an empty procedure", []any{got, end, err}, []any{[]api.Outcome(nil), sem.Ended, nil})
}

// P11.1, rule 7, P7: what a call answers doesn't hang on others before it or beside it.
func TestCallsAreApart(t *testing.T) {
	all := sources(t)
	texts := make([]string, 8)
	var beside sync.WaitGroup
	for at := range texts {
		beside.Go(func() {
			d := newDice(int64(20 + at%2))
			var text strings.Builder
			for range 200 {
				p := one(d, all...).program
				proc := one(d, p.procs...)
				in := d.inputs(p, proc)
				got, end, err := sem.Solve(p.x, p.procs, proc.Id, in, 200, 20)
				steps, raises, _, _ := sem.Steps(p.x, p.procs, proc.Id, in, 200)
				text.WriteString(form([]any{got, end, err, steps, raises}))
			}
			texts[at] = text.String()
		})
	}
	beside.Wait()
	for at := range texts {
		if texts[at] != texts[at%2] {
			t.Error("a call hangs on another one")
		}
	}
}

// within is a goal within so many others.
func within(depth int, inner api.Sched, around func(api.Sched) api.Sched) api.Sched {
	for range depth {
		inner = around(inner)
	}
	return inner
}

// P11.1: runs of as many steps as there may be: long lists, many choices, goals deep within one another, and much that is raised.
func TestLongRuns(t *testing.T) {
	yes, no := goal(api.STrue), goal(api.SFail)
	raise := api.Sched{Kind: api.SThrow}
	all := func(count int, g api.Sched) api.Sched { return goal(api.SAnd, slices.Repeat([]api.Sched{g}, count)...) }
	not := func(g api.Sched) api.Sched { return goal(api.SNot, g) }
	try := func(g api.Sched) api.Sched { return goal(api.STry, g, raise) }
	rescue := func(g api.Sched) api.Sched { return goal(api.STry, g, yes) }
	for at, r := range []struct {
		goal               api.Sched
		steps, raises, end int
		outcomes           int
	}{
		{all(99999, yes), 100000, 0, sem.Ended, 1},
		{all(100000, yes), 100000, 0, sem.Fuel, 0},
		{all(49999, choices(2)), 100000, 0, sem.Fuel, 2},
		{goal(api.SAnd, all(30000, choices(2)), no), 100000, 0, sem.Fuel, 0},
		{goal(api.SAnd, choices(99997), goal(api.SOr), yes), 100000, 0, sem.Fuel, 0},
		{goal(api.SAnd, choices(49999), no), 100000, 0, sem.Ended, 0},
		{within(50000, yes, not), 50001, 0, sem.Ended, 1},
		{within(49999, yes, not), 50000, 0, sem.Ended, 0},
		{within(60000, choices(50000), not), 60002, 0, sem.Ended, 1},
		{within(60000, yes, try), 60001, 0, sem.Ended, 1},
		{within(60000, no, try), 60001, 0, sem.Ended, 0},
		{within(49999, raise, try), 99999, 50000, sem.Ended, 1},
		{within(60000, raise, try), 100000, 40000, sem.Fuel, 0},
		{within(60000, raise, rescue), 60002, 1, sem.Ended, 1},
		{within(60000, all(50000, yes), rescue), 100000, 0, sem.Fuel, 0},
		{all(33333, rescue(raise)), 100000, 33333, sem.Ended, 1},
		{goal(api.SAnd, choices(33333), rescue(goal(api.SOr, raise))), 100000, 19999, sem.Fuel, 19999},
		{within(30000, yes, func(g api.Sched) api.Sched { return goal(api.SAnd, g, goal(api.SOr, yes, no)) }), 100000, 0, sem.Fuel, 1},
		{within(60000, yes, func(g api.Sched) api.Sched { return goal(api.SOr, g) }), 60001, 0, sem.Ended, 1},
	} {
		p := programOf(t, "p: true")
		p.procs[0].Goal = r.goal
		id := p.procs[0].Id
		steps, raises, end, err := sem.Steps(p.x, p.procs, id, nil, math.MaxInt)
		got, solveEnd, _ := sem.Solve(p.x, p.procs, id, nil, math.MaxInt, math.MaxInt)
		held(t, fmt.Sprint("goal ", at), []any{steps, raises, end, err, len(got), solveEnd}, []any{r.steps, r.raises, r.end, nil, r.outcomes, r.end})
	}
}

// P11.1: a goal's solutions that come from as deep as procedures may be nested, as often as there may be.
func TestManyDeepSolutions(t *testing.T) {
	p := programOf(t, "p io: or([is 0 0, q'0 1], [not(is 0 0), load 2 1, sub'0 0 2 3, p'0 3 1])\nq o: load 0 5")
	q := &p.procs[1].Goal
	*q = goal(api.SOr, slices.Repeat([]api.Sched{*q}, 20000)...)
	got, end, err := sem.Solve(p.x, p.procs, p.procs[0].Id, []api.Data{number(1022)}, math.MaxInt, math.MaxInt)
	held(t, "deep", []any{len(got), shown(got[19999]), end, err}, []any{20000, "5", sem.Ended, nil})
}
