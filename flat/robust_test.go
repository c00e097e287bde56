package flat_test

import (
	"math"
	"math/rand"
	"reflect"
	"slices"
	"strings"
	"sync"
	"testing"

	"augur/api"
	"augur/flat"
	"augur/print"
)

// mapped is a copy of a value that shares nothing with it, in which each list is made by remake of its copy.
func mapped(value reflect.Value, remake func(reflect.Value) reflect.Value) reflect.Value {
	made := reflect.New(value.Type()).Elem()
	made.Set(value)
	switch value.Kind() {
	case reflect.Struct:
		for i := range value.NumField() {
			made.Field(i).Set(mapped(value.Field(i), remake))
		}
	case reflect.Slice:
		list := reflect.MakeSlice(value.Type(), 0, value.Len())
		for _, x := range value.Seq2() {
			list = reflect.Append(list, mapped(x, remake))
		}
		made.Set(remake(list))
	}
	return made
}

// everything is a copy of a value that shares nothing with it.
func everything[T any](value T) T {
	same := func(list reflect.Value) reflect.Value { return list }
	return mapped(reflect.ValueOf(value), same).Interface().(T)
}

// roomy is a copy of a value in which each list has room beyond its end, with marks in it.
func roomy[T any](value T) T {
	room := func(list reflect.Value) reflect.Value {
		long := list
		for range 3 {
			mark := reflect.New(list.Type().Elem()).Elem()
			if mark.Kind() == reflect.Int {
				mark.SetInt(77)
			}
			long = reflect.Append(long, mark)
		}
		return long.Slice(0, list.Len())
	}
	return mapped(reflect.ValueOf(value), room).Interface().(T)
}

// lists calls visit with each list in a value, up to what it has room for.
func lists(value reflect.Value, visit func(reflect.Value)) {
	switch value.Kind() {
	case reflect.Struct:
		for i := range value.NumField() {
			lists(value.Field(i), visit)
		}
	case reflect.Slice:
		visit(value.Slice(0, value.Cap()))
		for _, x := range value.Seq2() {
			lists(x, visit)
		}
	}
}

// rooms tells all that a value's lists have room for.
func rooms(value any) string {
	var all strings.Builder
	lists(reflect.ValueOf(value), func(list reflect.Value) { all.WriteString(form(list.Interface())) })
	return all.String()
}

// P5.1, rule 4: no call changes what it is given.
func TestArgumentsStay(t *testing.T) {
	thrown(t, 8, 25, func(_ dice, items []api.Item, x api.Index, arity int) {
		items, x = roomy(items), roomy(x)
		before, beforeX := rooms(items), rooms(x)
		b, err := flat.Flatten(items, x, key("p", arity))
		held(t, "items", rooms(items), before)
		held(t, "index", rooms(x), beforeX)
		if err != nil {
			return
		}
		goal := roomy(b.Goal)
		beforeGoal := rooms(goal)
		for range flat.Vars(goal) {
		}
		flat.Same(goal, roomy(goal))
		held(t, "goal", rooms(goal), beforeGoal)
	})
}

// span is where a list lies.
type span struct{ from, to uintptr }

// spans are where a value's lists lie.
func spans(value any) []span {
	var all []span
	lists(reflect.ValueOf(value), func(list reflect.Value) {
		if list.Len() > 0 {
			from := list.Pointer()
			all = append(all, span{from, from + uintptr(list.Len())*list.Type().Elem().Size()})
		}
	})
	return all
}

// P5.1, rule 4: a body shares no memory with what it was made of, and no two lists of it share any.
func TestBodiesAreNew(t *testing.T) {
	thrown(t, 9, 150, func(_ dice, items []api.Item, x api.Index, arity int) {
		b, err := flat.Flatten(items, x, key("p", arity))
		if err != nil {
			return
		}
		all := slices.Concat(spans(b), spans(items), spans(x))
		for i, a := range spans(b) {
			for j, other := range all {
				if i != j && a.from < other.to && other.from < a.to {
					t.Fatalf("%s: lists share memory", print.Source(clausesOf(items, arity)))
				}
			}
		}
	})
}

// P5.1, rule 7: what a call returns hangs on its arguments alone: not on other calls before it or beside it.
func TestCallsAreApart(t *testing.T) {
	var all sync.WaitGroup
	for seed := range 8 {
		all.Go(func() {
			thrown(t, int64(10+seed%4), 40, func(_ dice, items []api.Item, x api.Index, arity int) {
				first, firstErr := flat.Flatten(items, x, key("p", arity))
				kept := form(first)
				_, _ = flat.Flatten(items, x, key("p", (arity+1)%4))
				second, secondErr := flat.Flatten(items, x, key("p", arity))
				held(t, "kept", form(first), kept)
				held(t, "again", second, first)
				held(t, "again", secondErr, firstErr)
			})
		})
	}
	all.Wait()
}

// odd throws items, indexes and goals that no layer makes.
type odd struct{ *rand.Rand }

func (o odd) name() string { return []string{"", "p", "X", "_", "add", "%", "\xff"}[o.Intn(7)] }

func (o odd) number() int {
	return []int{0, -1, 1, 2, 3, 9, 300, math.MaxInt, math.MinInt}[o.Intn(9)]
}

func (o odd) term() api.Term {
	return api.Term{Kind: o.Intn(6) - 1, Name: o.name(), Int: o.number(), Args: many(o.Intn(2), o.term)}
}

func (o odd) goal() api.Goal {
	return api.Goal{Kind: o.Intn(12) - 1, A: o.term(), B: o.term(), Name: o.name(), Args: many(o.Intn(3), o.term), Goals: many(o.Intn(5)/2, o.goal)}
}

func (o odd) item() api.Item {
	return api.Item{Kind: o.Intn(6), Name: o.name(), Args: many(o.Intn(3), o.term), Body: o.goal()}
}

func (o odd) key() api.Key { return key(o.name(), o.number()) }

func (o odd) pred() api.Pred { return api.Pred{Key: o.key(), Clauses: many(o.Intn(4), o.number)} }

func (o odd) flat() api.Flat {
	return api.Flat{Kind: o.number(), X: o.number(), Y: o.number(), Ctor: o.key(), Args: many(o.Intn(3), o.number), Goals: many(o.Intn(2), o.flat)}
}

// clause is mostly a clause of a p with two arguments.
func (o odd) clause() api.Item {
	if o.Intn(10) == 0 {
		return o.item()
	}
	return api.Item{Kind: api.ItemClause, Name: "p", Args: many(2, o.term), Body: o.goal()}
}

// P5.1: every call ends without a panic, whatever it is given.
func TestOddArguments(t *testing.T) {
	o, made := odd{rand.New(rand.NewSource(14))}, 0
	for range 20000 {
		items, x := many(o.Intn(4), o.clause), api.Index{Preds: many(o.Intn(3), o.pred)}
		k := o.key()
		if o.Intn(4) > 0 {
			k = key("p", 2)
			x.Preds = append(x.Preds, api.Pred{Key: k, Clauses: many(o.Intn(4), func() int { return o.Intn(len(items) + 1) })})
		}
		b, err := flat.Flatten(items, x, k)
		if err == nil {
			made++
		} else if form(b) != form(api.Body{}) || err != api.ErrNone && err != api.ErrLarge {
			t.Fatalf("%v with %+v", err, b)
		}
		goal := o.flat()
		for _, goal := range []api.Flat{goal, b.Goal} {
			for range flat.Vars(goal) {
			}
			if !flat.Same(goal, everything(goal)) {
				t.Fatalf("%+v isn't the same as its copy", goal)
			}
		}
		flat.Same(goal, o.flat())
	}
	if made < 5000 {
		t.Error(made)
	}
}

// P5.1, rule 5: places where the items have no clause of the predicate are refused, as is a count below 0.
func TestIndexOfOthers(t *testing.T) {
	items := []api.Item{
		{Kind: api.ItemClause, Name: "p"},
		{Kind: api.ItemClause, Name: "q"},
		{Kind: api.ItemClause, Name: "p", Args: []api.Term{{Kind: api.TInt}}},
		{Kind: api.ItemPred, Name: "p"},
		{},
	}
	for _, at := range []int{-1, 1, 2, 3, 4, 5, math.MaxInt, math.MinInt} {
		x := api.Index{Preds: []api.Pred{{Key: key("p", 0), Clauses: []int{0, at}}}}
		b, err := flat.Flatten(items, x, key("p", 0))
		held(t, form(at), b, api.Body{})
		held(t, form(at), err, api.ErrNone)
	}
	for _, arity := range []int{-1, math.MinInt} {
		b, err := flat.Flatten(items, api.Index{Preds: []api.Pred{{Key: key("p", arity)}}}, key("p", arity))
		held(t, form(arity), b, api.Body{})
		held(t, form(arity), err, api.ErrNone)
	}
	b, err := flat.Flatten(items, api.Index{Preds: []api.Pred{{Key: key("p", math.MaxInt)}}}, key("p", math.MaxInt))
	held(t, "many arguments", b, api.Body{})
	held(t, "many arguments", err, api.ErrLarge)
}

// nested calls what to do with p's clause, spoilt to nest 2^16 parts.
func nested(t *testing.T, look func(items []api.Item, x api.Index)) {
	items, x := read(t, declared+declare("p", 1)+"p(X).")
	term, goals := api.Term{Kind: api.TVar, Name: "X"}, map[int]api.Goal{}
	kinds := []int{api.GAnd, api.GOr, api.GNot, api.GTry}
	for _, kind := range kinds {
		goals[kind] = api.Goal{Kind: api.GFail}
	}
	for range 1 << 16 {
		term = api.Term{Kind: api.TCtor, Name: "f", Args: []api.Term{term}}
		for _, kind := range kinds {
			goals[kind] = api.Goal{Kind: kind, Name: "E", Goals: []api.Goal{goals[kind], {Kind: api.GCall, Name: "q"}}}
		}
	}
	clause := &items[len(items)-1]
	clause.Args[0] = term
	look(items, x)
	clause.Args[0] = api.Term{Kind: api.TVar, Name: "X"}
	clause.Body = api.Goal{Kind: api.GThrow, A: term}
	look(items, x)
	for _, kind := range kinds {
		clause.Body = goals[kind]
		look(items, x)
	}
}

// P5.1: a call ends also where 2^16 parts are nested in one another.
func TestDepth(t *testing.T) {
	nested(t, func(items []api.Item, x api.Index) {
		b, err := flat.Flatten(items, x, key("p", 1))
		if len(items[len(items)-1].Body.Goals) == 0 {
			held(t, "deep term", err, api.ErrLarge)
			held(t, "deep term", b, api.Body{})
			return
		}
		held(t, "deep goal", err, nil)
		if !flat.Same(b.Goal, b.Goal) || len(slices.Collect(flat.Vars(b.Goal))) > 1 {
			t.Error("a deep goal isn't the same as itself, or has variables")
		}
	})
}

// P5.1: a wide body is made in time that grows with it.
func TestWidth(t *testing.T) {
	items, x := read(t, declared+declare("p", 1)+"p(X).")
	clause := &items[len(items)-1]
	clause.Body = api.Goal{Kind: api.GAnd}
	for range 1 << 18 {
		clause.Body.Goals = append(clause.Body.Goals, api.Goal{Kind: api.GCall, Name: "q", Args: []api.Term{{Kind: api.TVar, Name: "X"}}})
	}
	b, err := flat.Flatten(items, x, key("p", 1))
	held(t, "wide", err, nil)
	held(t, "wide", len(b.Goal.Goals), 1<<18)
	held(t, "wide", b.Vars, 1)
	held(t, "wide", slices.Collect(flat.Vars(b.Goal)), []int{0})
}
