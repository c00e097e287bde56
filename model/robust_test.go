package model_test

import (
	"fmt"
	"math"
	"math/rand"
	"reflect"
	"slices"
	"strings"
	"sync"
	"testing"

	"augur/api"
	"augur/model"
	"augur/names"
	"augur/sem"
)

// roomy is a copy of a value that shares nothing with it, in which each list has room beyond its end, with marks in it.
func roomy[T any](value T) T { return roomyValue(reflect.ValueOf(value)).Interface().(T) }

func roomyValue(value reflect.Value) reflect.Value {
	made := reflect.New(value.Type()).Elem()
	made.Set(value)
	switch value.Kind() {
	case reflect.Struct:
		for i := range value.NumField() {
			made.Field(i).Set(roomyValue(value.Field(i)))
		}
	case reflect.Slice:
		list := reflect.MakeSlice(value.Type(), value.Len()+3, value.Len()+3)
		for i := range list.Len() {
			if i < value.Len() {
				list.Index(i).Set(roomyValue(value.Index(i)))
			} else {
				mark(list.Index(i))
			}
		}
		made.Set(list.Slice(0, value.Len()))
	}
	return made
}

// mark makes a value one that no list has.
func mark(value reflect.Value) {
	switch value.Kind() {
	case reflect.Struct:
		for i := range value.NumField() {
			mark(value.Field(i))
		}
	case reflect.Int:
		value.SetInt(-77)
	case reflect.String:
		value.SetString("mark")
	}
}

// visitLists calls visit with each list in a value, up to what it has room for.
func visitLists(value reflect.Value, visit func(reflect.Value)) {
	switch value.Kind() {
	case reflect.Struct:
		for i := range value.NumField() {
			visitLists(value.Field(i), visit)
		}
	case reflect.Slice:
		visit(value.Slice(0, value.Cap()))
		for i := range value.Len() {
			visitLists(value.Index(i), visit)
		}
	}
}

// rooms tells all that a value's lists have room for.
func rooms(value any) string {
	var told strings.Builder
	visitLists(reflect.ValueOf(value), func(list reflect.Value) { told.WriteString(form(list.Interface())) })
	return told.String()
}

// isNew asks that no list of an answer shares memory with another one of it, or with those of other values.
func isNew(t *testing.T, what string, answer any, others ...any) {
	t.Helper()
	type place struct {
		from, to uintptr
		own      bool
	}
	var all []place
	for i, value := range append([]any{answer}, others...) {
		visitLists(reflect.ValueOf(value), func(list reflect.Value) {
			if list.Cap() > 0 {
				from := list.Pointer()
				all = append(all, place{from, from + uintptr(list.Cap())*list.Type().Elem().Size(), i == 0})
			}
		})
	}
	slices.SortFunc(all, func(a, b place) int { return int(int64(a.from) - int64(b.from)) })
	for i := 1; i < len(all); i++ {
		if a, b := all[i-1], all[i]; b.from < a.to && (a.own || b.own) {
			t.Fatalf("%.900s: lists share memory", what)
		}
	}
}

// strange is data with something in the fields that their kind has no use for.
func strange(d api.Data) api.Data {
	if !d.Ctor {
		d.Name, d.Args = "strange", []api.Data{made("x"), number(7)}
		return d
	}
	d.Int = -77
	d.Args = slices.Clone(d.Args)
	for i := range d.Args {
		d.Args[i] = strange(d.Args[i])
	}
	return d
}

// spoil changes all that data consist of.
func spoil(list []api.Data) {
	for i := range list {
		spoil(list[i].Args)
		list[i] = made("spoilt", number(-77))
	}
}

// P12.1, rule 4: no call changes what it is given, and what it answers is new memory; what has no use in data doesn't matter.
func TestArgumentsStay(t *testing.T) {
	d, counts := newDice(7), tally{}
	for _, s := range strictSources(t) {
		items, x := roomy(s.items), roomy(s.x)
		before := rooms(items) + rooms(x)
		for range 3 {
			id, in := d.call(s)
			in = roomy(in)
			odd := slices.Clone(in)
			for i := range odd {
				odd[i] = strange(odd[i])
			}
			what, beforeIn := s.text+form(id)+form(in), rooms(in)
			got, end, err := model.Solutions(items, x, id, in, 300)
			held(t, what, err, nil)
			other, otherEnd, err := model.Solutions(items, x, id, odd, 300)
			held(t, what, err, nil)
			held(t, what, form(other)+form(otherEnd), form(got)+form(end))
			isNew(t, what, got, other, in, odd, items, x)
			held(t, what, rooms(in), beforeIn)
			kept := form(got)
			for _, tuple := range other {
				spoil(tuple)
			}
			spoil(in)
			held(t, what, form(got), kept)
			counts[fmt.Sprint("tuples ", min(len(got), 2))]++
		}
		held(t, s.text, rooms(items)+rooms(x), before)
	}
	counts.most(t, 20, "tuples 0", "tuples 1", "tuples 2")
}

// P12.1, rule 4: also where tuples share their parts while they are searched for.
func TestSharedValues(t *testing.T) {
	s := read(t, "type t = a | b | f(t) | g(t, t). pred p(t, t, t). mode p(in, out, out) is nondet. p(X, g(Y, Y), Z) :- Y = g(X, X), (Z = Y ; Z = X ; Z = g(Y, X)).")
	id, in := called(t, "p/3'0"), list(t, "g(f(a), b)")
	got, end, err := model.Solutions(s.items, s.x, id, in, 100)
	held(t, "shared", []any{len(got), end, err}, []any{3, model.Ended, nil})
	isNew(t, "shared", got, in)
	kept := form(got[1:])
	spoil(got[0])
	held(t, "shared", form(got[1:]), kept)
	held(t, "shared", form(in), form(list(t, "g(f(a), b)")))
}

// P12.1, rule 4: a tuple shares nothing with what it is made of, and has no fields that its kind has no use for.
func TestTupleIsNew(t *testing.T) {
	o := api.Outcome{Out: roomy(list(t, "f(a) | 3"))}
	proc := api.Proc{In: roomy([]bool{false, true, false, true})}
	in := roomy(list(t, "g(f(b), 7) | 5"))
	before := rooms(o) + rooms(proc) + rooms(in)
	got := model.Tuple(o, proc, in)
	held(t, "tuple", got, list(t, "f(a) | g(f(b), 7) | 3 | 5"))
	isNew(t, "tuple", got, model.Tuple(o, proc, in), o, proc, in)
	held(t, "arguments", rooms(o)+rooms(proc)+rooms(in), before)
	for i := range in {
		in[i] = strange(in[i])
	}
	for i := range o.Out {
		o.Out[i] = strange(o.Out[i])
	}
	held(t, "strange", model.Tuple(o, proc, in), got)
}

// spoiler changes parts of values at random.
type spoiler struct {
	dice
	often int // one of so many parts
}

func (s spoiler) spoil(value reflect.Value) {
	switch value.Kind() {
	case reflect.Struct:
		for i := range value.NumField() {
			s.spoil(value.Field(i))
		}
	case reflect.Slice:
		for i := range value.Len() {
			s.spoil(value.Index(i))
		}
		if n := value.Len(); n > 0 && s.Intn(s.often) == 0 {
			value.Set(value.Slice(0, s.Intn(n)))
		} else if n > 0 && s.Intn(s.often) == 0 {
			value.Set(reflect.Append(value, value.Index(s.Intn(n))))
		}
	case reflect.Int:
		if s.Intn(s.often) == 0 {
			value.SetInt(int64(one(s.dice, s.Intn(16), s.Intn(16), -1, 300, math.MaxInt, math.MinInt)))
		}
	case reflect.String:
		if s.Intn(s.often) == 0 {
			value.SetString(one(s.dice, "", "X", "_", "p", "two", "add", "lt", "int", "cons", "\xff"))
		}
	case reflect.Bool:
		if s.Intn(s.often) == 0 {
			value.SetBool(s.Intn(2) == 0)
		}
	}
}

// spoilt is a copy of a value of which parts are changed.
func spoilt[T any](d dice, value T) T {
	value = roomy(value)
	spoiler{d, one(d, 10, 30, 100, 300, 1000, 1000)}.spoil(reflect.ValueOf(&value).Elem())
	return value
}

// P12.1: every call ends without a panic, also for what no layer makes, and answers nothing beside an error, or beside a search that
// was aborted.
func TestOddArguments(t *testing.T) {
	d, counts := newDice(8), tally{}
	for range 1500 {
		s := one(d, strictSources(t)...)
		items, x := s.items, s.x
		id, in := d.call(s)
		if d.Intn(4) > 0 {
			items = spoilt(d, items)
		}
		if d.Intn(3) == 0 {
			x = spoilt(d, x)
		} else if y, err := names.Resolve(items); err == nil {
			x = y
		}
		if d.Intn(8) == 0 {
			id, in = spoilt(d, id), spoilt(d, in)
		}
		before := rooms(items) + rooms(x) + rooms(in)
		got, end, err := model.Solutions(items, x, id, in, 200)
		what := fmt.Sprintf("%v of %v, %v, %v", id, in, items, x)
		counts[fmt.Sprint(err)]++
		counts[fmt.Sprint("end ", end)]++
		if err != nil && end != 0 || err == nil && (end < model.Ended || end > model.Raised) || end != model.Ended && len(got) > 0 {
			t.Fatal(what, got, end, err)
		}
		isNew(t, what, got, items, x, in)
		again, _, _ := model.Solutions(items, x, id, in, 200)
		held(t, what, form(again), form(got))
		held(t, what, rooms(items)+rooms(x)+rooms(in), before)
		model.Tuple(spoilt(d, api.Outcome{Out: in}), spoilt(d, one(d, s.procs...)), in)
	}
	counts.most(t, 20, "<nil>", api.ErrNone.Error(), api.ErrData.Error(), "end 0", "end 1", "end 2", "end 4", "end 5")
	got, end, err := model.Solutions(nil, api.Index{}, api.ProcId{}, nil, 10)
	held(t, "nothing", []any{got, end, err}, []any{[][]api.Data(nil), 0, api.ErrNone})
	held(t, "nothing", len(model.Tuple(api.Outcome{}, api.Proc{}, nil)), 0)
}

// P12.1: goals that no parser makes are never taken.
func TestOddGoals(t *testing.T) {
	yes := goal(api.GTrue)
	for _, r := range []struct {
		body api.Goal
		want string
	}{
		{goal(api.GNot), "stuck"},
		{goal(api.GNot, yes, yes), "stuck"},
		{goal(api.GTry), "stuck"},
		{goal(api.GTry, yes), "stuck"},
		{goal(api.GTry, yes, yes, yes), "stuck"},
		{goal(api.GOr), ""},
		{goal(api.GOr, yes), "true"},
		{goal(api.GAnd), "true"},
		{goal(99), "true"},
	} {
		held(t, form(r.body), bodied(t, r.body).solve(t, p(), nil, 100), r.want)
	}
}

// P12.1, rule 7, P7: what a call answers doesn't hang on others before it or beside it.
func TestCallsAreApart(t *testing.T) {
	all := strictSources(t)
	texts := make([]string, 8)
	var beside sync.WaitGroup
	for at := range texts {
		beside.Go(func() {
			d := newDice(int64(20 + at%2))
			var text strings.Builder
			for range 200 {
				s := one(d, all...)
				id, in := d.call(s)
				got, end, err := model.Solutions(s.items, s.x, id, in, 300)
				text.WriteString(form([]any{got, end, err}))
			}
			texts[at] = text.String()
		})
	}
	beside.Wait()
	for at := range texts {
		if texts[at] != texts[at%2] {
			t.Error("a call hangs on another one")
		}
	}
}

// within is a goal within so many others.
func within(depth int, inner api.Goal, around func(api.Goal) api.Goal) api.Goal {
	for range depth {
		inner = around(inner)
	}
	return inner
}

// P12.1: goals deep within one another, and many of them.
func TestDeepAndWide(t *testing.T) {
	yes, no := goal(api.GTrue), goal(api.GFail)
	not := func(g api.Goal) api.Goal { return goal(api.GNot, g) }
	or := func(g api.Goal) api.Goal { return goal(api.GOr, no, g) }
	try := func(g api.Goal) api.Goal { return goal(api.GTry, g, no) }
	for at, r := range []struct {
		body api.Goal
		fuel int
		want string
	}{
		{within(60000, yes, not), 60001, "true"},
		{within(60000, yes, not), 60000, "fuel"},
		{within(59999, yes, not), 60000, ""},
		{within(49999, yes, or), 99999, "true"},
		{within(49999, yes, or), 99998, "fuel"},
		{within(60000, yes, try), 60001, "true"},
		{within(60000, no, try), 60001, ""},
		{within(30000, yes, func(g api.Goal) api.Goal { return goal(api.GAnd, try(g), try(yes)) }), 120001, "fuel"},
		{within(20000, yes, func(g api.Goal) api.Goal { return goal(api.GAnd, try(g), try(yes)) }), 100001, "true"},
		{within(20000, no, func(g api.Goal) api.Goal { return not(not(goal(api.GAnd, g, not(no)))) }), 100000, ""},
		{many(api.GAnd, 60000, try(yes)), 100001, "fuel"},
		{many(api.GAnd, 49999, try(yes)), 100000, "true"},
		{many(api.GAnd, 3000, goal(api.GOr, yes, yes)), 100000, "fuel"},
		{many(api.GAnd, 3000, goal(api.GOr, yes, no)), 9001, "true"},
		{many(api.GAnd, 3000, goal(api.GOr, no, yes)), 9001, "true"},
		{many(api.GAnd, 3000, goal(api.GNot, no)), 6001, "true"},
		{many(api.GOr, 3000, many(api.GAnd, 10, try(yes))), 63001, "true"},
	} {
		held(t, fmt.Sprint("body ", at), bodied(t, r.body).solve(t, p(), nil, r.fuel), r.want)
	}
}

// P12.1: as many tuples as the fuel allows, each with large data, as deep within one another as searches may nest.
func TestManyTuples(t *testing.T) {
	s := read(t, `type t = a | b | f(t) | g(t, t). pred digit(int). mode digit(out) is multi.
digit(0). digit(1). digit(2). digit(3). digit(4). digit(5). digit(6). digit(7). digit(8). digit(9).
pred p(int, t, int, int, int, int). mode p(in, in, out, out, out, out) is nondet.
p(N, _, A, B, C, D) :- digit(A), digit(B), digit(C), digit(D), N = 0.
p(N, X, A, B, C, D) :- sub(N, 1, M), p(M, X, A, B, C, D), lt(0, N).
pred count(int, t, int). mode count(in, in, out) is nondet. count(N, X, A) :- p(N, X, A, 3, 4, _).
pred all(int, t). mode all(in, in) is nondet. all(N, X) :- p(N, X, A, B, C, D).`)
	large := tree(4096)
	for _, n := range []int{0, 1, 30} {
		got, end, err := model.Solutions(s.items, s.x, called(t, "all/2'0"), []api.Data{number(n), large}, sem.MaxSteps)
		held(t, "all", []any{len(got), end, err}, []any{1, model.Ended, nil})
		_, end, _ = model.Solutions(s.items, s.x, called(t, "count/3'0"), []api.Data{number(n), large}, sem.MaxSteps)
		held(t, "count", end, model.Ended)
	}
	d := dice{rand.New(rand.NewSource(9))}
	in := []api.Data{number(d.Intn(3)), made("a")}
	got, end, err := model.Solutions(s.items, s.x, called(t, "p/6'0"), in, sem.MaxSteps)
	held(t, "p", []any{len(got), shown(got[1234][2:]), end, err}, []any{10000, "1, 2, 3, 4", model.Ended, nil})
}
