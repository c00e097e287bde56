package types_test

import (
	"math"
	"math/rand"
	"reflect"
	"slices"
	"strings"
	"sync"
	"testing"

	"augur/api"
	"augur/flat"
	"augur/types"
)

// roomy is a copy of a value that shares nothing with it, in which each list has room beyond its end, with marks in it.
func roomy[T any](value T) T { return roomyValue(reflect.ValueOf(value)).Interface().(T) }

func roomyValue(value reflect.Value) reflect.Value {
	made := reflect.New(value.Type()).Elem()
	made.Set(value)
	switch value.Kind() {
	case reflect.Struct:
		for i := range value.NumField() {
			made.Field(i).Set(roomyValue(value.Field(i)))
		}
	case reflect.Slice:
		list := reflect.MakeSlice(value.Type(), 0, value.Len()+3)
		for _, x := range value.Seq2() {
			list = reflect.Append(list, roomyValue(x))
		}
		for range 3 {
			list = reflect.Append(list, mark(value.Type().Elem()))
		}
		made.Set(list.Slice(0, value.Len()))
	}
	return made
}

// mark is a value that no list of a source has.
func mark(of reflect.Type) reflect.Value {
	made := reflect.New(of).Elem()
	switch of.Kind() {
	case reflect.Struct:
		for i := range made.NumField() {
			made.Field(i).Set(mark(made.Field(i).Type()))
		}
	case reflect.Int:
		made.SetInt(-77)
	case reflect.String:
		made.SetString("mark")
	}
	return made
}

// lists calls visit with each list in a value, up to what it has room for.
func lists(value reflect.Value, visit func(reflect.Value)) {
	switch value.Kind() {
	case reflect.Struct:
		for i := range value.NumField() {
			lists(value.Field(i), visit)
		}
	case reflect.Slice:
		visit(value.Slice(0, value.Cap()))
		for _, x := range value.Seq2() {
			lists(x, visit)
		}
	}
}

// rooms tells all that a value's lists have room for.
func rooms(value any) string {
	var told strings.Builder
	lists(reflect.ValueOf(value), func(list reflect.Value) { told.WriteString(form(list.Interface())) })
	return told.String()
}

// span is where a list lies, with what it has room for.
type span struct{ from, to uintptr }

// spans are where a value's lists lie.
func spans(value any) []span {
	var found []span
	lists(reflect.ValueOf(value), func(list reflect.Value) {
		if list.Len() > 0 {
			from := list.Pointer()
			found = append(found, span{from, from + uintptr(list.Len())*list.Type().Elem().Size()})
		}
	})
	return found
}

// isNew asks that an answer shares no memory with others, and that no two of its lists share any.
func isNew(t *testing.T, what string, answer any, others ...any) {
	t.Helper()
	own := spans(answer)
	list := slices.Clone(own)
	for _, other := range others {
		list = append(list, spans(other)...)
	}
	for i, a := range own {
		for j, b := range list {
			if i != j && a.from < b.to && b.from < a.to {
				t.Fatalf("%s: lists of %+v share memory", what, answer)
			}
		}
	}
}

// P7.1, rule 4: Infer and Check change nothing that they are given, and the types are new memory.
func TestArgumentsStay(t *testing.T) {
	made := 0
	thrown(t, 21, 60, func(_ dice, text string, items []api.Item, x api.Index) {
		items, x = roomy(items), roomy(x)
		before, beforeX := rooms(items), rooms(x)
		_ = types.Check(items, x)
		for _, p := range x.Preds[7:] {
			b, _ := flat.Flatten(items, x, p.Key)
			b = roomy(b)
			beforeB := rooms(b)
			list, err := types.Infer(x, b)
			again, _ := types.Infer(x, b)
			held(t, text+" body", rooms(b), beforeB)
			isNew(t, text, list, again, x, b, items)
			if err == nil && len(list) > 0 {
				made++
			}
		}
		held(t, text+" items", rooms(items), before)
		held(t, text+" index", rooms(x), beforeX)
	})
	if made < 60 {
		t.Error(made)
	}
}

// P7.1, rule 4: Fields changes nothing, and its types are new memory, also where one argument stands for several.
func TestFieldsAreNew(t *testing.T) {
	_, x := read(t, prelude+" type all(A) = all(A, A, list(A), duo(A, list(A))).")
	x = roomy(x)
	beforeX := rooms(x)
	part := data("list", integer())
	for _, of := range []api.Type{data("all", part), data("duo", part, part), data("list", data("duo", part, part)), data("swap", part, data("list", part)), data("nest", part)} {
		of = roomy(of)
		before := rooms(of)
		for _, c := range x.Ctors {
			list, ok := types.Fields(x, c.Key, of)
			again, _ := types.Fields(x, c.Key, of)
			if ok != (c.Type == of.Name) {
				t.Errorf("%v of %v: %t", c.Key, of, ok)
			}
			isNew(t, c.Key.Name, list, again, of, x)
		}
		held(t, of.Name, rooms(of), before)
	}
	held(t, "index", rooms(x), beforeX)
	// What becomes of an answer shows nowhere.
	of := data("list", data("list", integer()))
	list, _ := types.Fields(x, key("cons", 2), of)
	list[0].Args[0], list[1].Args[0].Name = rigid("spoilt"), "spoilt"
	held(t, "spoilt", of, data("list", data("list", integer())))
	list, _ = types.Fields(x, key("cons", 2), of)
	held(t, "again", texts(list), "list(int) list(list(int))")
}

// P7.1, P7, rule 7: what a call returns hangs on its arguments alone: not on other calls before it or beside it.
func TestCallsAreApart(t *testing.T) {
	var all sync.WaitGroup
	for seed := range 8 {
		all.Go(func() {
			thrown(t, int64(30+seed%4), 30, func(_ dice, text string, items []api.Item, x api.Index) {
				first := types.Check(items, x)
				for _, p := range x.Preds[7:] {
					b, _ := flat.Flatten(items, x, p.Key)
					list, err := types.Infer(x, b)
					kept := form(list)
					again, againErr := types.Infer(x, b)
					held(t, text, form(list), kept)
					held(t, text, again, list)
					held(t, text, againErr, err)
				}
				held(t, text, types.Check(items, x), first)
			})
		})
	}
	all.Wait()
}

// odd throws indexes and bodies that no layer makes.
type odd struct{ *rand.Rand }

func times[T any](count int, make func() T) []T {
	var list []T
	for range count {
		list = append(list, make())
	}
	return list
}

func (o odd) name() string { return one(dice(o), "", "p", "X", "int", "add", "list", "\xff") }

func (o odd) number() int {
	return one(dice(o), 0, 1, 2, 3, 3, 4, 5, 6, 7, 8, 9, 10, 11, 12, -1, math.MaxInt, math.MinInt)
}

func (o odd) small() int { return o.Intn(4) }

func (o odd) key() api.Key { return key(o.name(), one(dice(o), 0, 1, 2, o.number())) }

func (o odd) typ() api.TypeExpr {
	return api.TypeExpr{Var: o.Intn(3) == 0, Name: o.name(), Args: times(o.Intn(5)/3, o.typ)}
}

func (o odd) ctor() api.Ctor {
	return api.Ctor{Key: o.key(), Type: o.name(), Vars: times(o.Intn(3), o.name), Args: times(o.Intn(3), o.typ), Tag: o.number()}
}

func (o odd) pred() api.Pred {
	return api.Pred{Key: o.key(), Types: times(o.Intn(3), o.typ), Clauses: times(o.Intn(3), o.number)}
}

func (o odd) index() api.Index {
	return api.Index{Ctors: times(o.Intn(6), o.ctor), Preds: times(o.Intn(6), o.pred)}
}

// variable is mostly one that a body has.
func (o odd) variable() int { return one(dice(o), o.small(), o.small(), o.small(), o.number()) }

func (o odd) goal() api.Flat {
	return api.Flat{Kind: o.number(), X: o.variable(), Y: o.variable(), Int: o.number(), Ctor: o.key(), Pred: o.key(), Args: times(o.Intn(3), o.variable), Goals: times(o.Intn(4), o.within)}
}

// within is a goal within another one.
func (o odd) within() api.Flat {
	if o.Intn(3) > 0 {
		return api.Flat{Kind: o.number(), X: o.variable(), Y: o.variable()}
	}
	return o.goal()
}

func (o odd) data() api.Type {
	return api.Type{Kind: o.number(), Name: o.name(), Var: o.number(), Args: times(o.Intn(5)/2, o.data)}
}

// P7.1, rules 1 and 2: every call ends without a panic, whatever it is given, with nothing beside an error or false.
func TestOddArguments(t *testing.T) {
	o, counts, found := odd{rand.New(rand.NewSource(25))}, map[error]int{}, 0
	for range 40000 {
		x := o.index()
		b := api.Body{Pred: o.key(), Vars: one(dice(o), 4, 4, 4, o.number()), Goal: o.goal()}
		if len(x.Preds) > 0 && o.Intn(4) > 0 {
			b.Pred = x.Preds[0].Key
		}
		list, err := types.Infer(x, b)
		counts[err]++
		if err == nil && len(list) != b.Vars || err != nil && (list != nil || err != api.ErrTypes && err != api.ErrLarge) {
			t.Fatalf("%+v of %+v: %v, %v", b, x, list, err)
		}
		if err := types.Check(nil, x); err != nil && err != api.ErrTypes && err != api.ErrLarge && err != api.ErrNone {
			t.Fatalf("%+v: %v", x, err)
		}
		of := o.data()
		if len(x.Ctors) > 0 && o.Intn(2) == 0 {
			of.Kind, of.Name = api.TyData, x.Ctors[0].Type
		}
		for _, k := range append(times(2, o.key), b.Pred) {
			list, ok := types.Fields(x, k, of)
			if ok {
				found++
			} else if list != nil {
				t.Fatalf("%v of %+v: %v", k, of, list)
			}
		}
	}
	if counts[nil] < 500 || counts[api.ErrTypes] < 5000 || counts[api.ErrLarge] < 500 || found < 100 {
		t.Error(counts, found)
	}
}

// P7.1, rule 5: variables that a body doesn't have are refused, also where a goal added an unknown of that number.
func TestNoSuchVariable(t *testing.T) {
	_, x := read(t, declared+p("int"))
	adds := api.Flat{Kind: api.FCall, Pred: key("zip", 3), Args: []int{1, 2, 3}}
	for _, v := range []int{-1, math.MinInt, 4, 5, 6, 99, math.MaxInt} {
		for _, f := range []api.Flat{
			{Kind: api.FSame, X: v, Y: 1},
			{Kind: api.FSame, X: 1, Y: v},
			{Kind: api.FSame, X: v, Y: v},
			{Kind: api.FInt, X: v},
			{Kind: api.FThrow, X: v},
			{Kind: api.FCtor, X: v, Ctor: key("nil", 0)},
			{Kind: api.FCtor, X: 1, Ctor: key("cons", 2), Args: []int{v, 2}},
			{Kind: api.FCtor, X: 1, Ctor: key("cons", 2), Args: []int{1, v}},
			{Kind: api.FCall, Pred: key("id", 2), Args: []int{1, v}},
			{Kind: api.FCall, Pred: key("id", 2), Args: []int{v, 1}},
			{Kind: api.FTry, X: v, Goals: []api.Flat{{Kind: api.FTrue}, {Kind: api.FTrue}}},
		} {
			b := api.Body{Pred: key("p", 1), Vars: 4, Goal: api.Flat{Kind: api.FAnd, Goals: []api.Flat{adds, f}}}
			list, err := types.Infer(x, b)
			held(t, form(f), err, api.ErrTypes)
			held(t, form(f), len(list), 0)
		}
	}
}

// P7.1, rule 5: counts of variables, and what a body names, that aren't there.
func TestOddBodies(t *testing.T) {
	_, x := read(t, declared+p("int")+"pred none. mode none is det.")
	none := api.Flat{Kind: api.FTrue}
	in := func(k api.Key, vars int, f api.Flat) api.Body { return api.Body{Pred: k, Vars: vars, Goal: f} }
	for _, r := range []struct {
		b   api.Body
		err error
	}{
		{in(key("none", 0), 0, none), nil},
		{in(key("none", 0), 200, none), nil},
		{in(key("none", 0), 201, none), api.ErrLarge},
		{in(key("none", 0), math.MaxInt, none), api.ErrLarge},
		{in(key("none", 0), -1, none), api.ErrTypes},
		{in(key("none", 0), math.MinInt, none), api.ErrTypes},
		{in(key("p", 1), 1, none), nil},
		{in(key("p", 1), 0, none), api.ErrTypes},
		{in(key("nosuch", 0), 0, none), api.ErrTypes},
		{api.Body{}, api.ErrTypes},
		{in(key("p", 1), 3, api.Flat{Kind: api.FCall, Pred: key("nosuch", 1), Args: []int{0}}), api.ErrTypes},
		{in(key("p", 1), 3, api.Flat{Kind: api.FCall, Pred: key("id", 2), Args: []int{0}}), api.ErrTypes},
		{in(key("p", 1), 3, api.Flat{Kind: api.FCall, Pred: key("id", 2), Args: []int{0, 1, 2}}), api.ErrTypes},
		{in(key("p", 1), 3, api.Flat{Kind: api.FCtor, X: 1, Ctor: key("nosuch", 0)}), api.ErrTypes},
		{in(key("p", 1), 3, api.Flat{Kind: api.FCtor, X: 1, Ctor: key("cons", 2), Args: []int{0}}), api.ErrTypes},
		{in(key("p", 1), 3, api.Flat{Kind: api.FCtor, X: 1, Ctor: key("cons", 2), Args: []int{0, 1, 2}}), api.ErrTypes},
		{in(key("p", 1), 3, api.Flat{Kind: api.FTry, X: 1}), api.ErrTypes},
		{in(key("p", 1), 3, api.Flat{Kind: api.FTry, X: 1, Goals: []api.Flat{none}}), api.ErrTypes},
		{in(key("p", 1), 3, api.Flat{Kind: api.FOr}), nil},
		{in(key("p", 1), 3, api.Flat{Kind: api.FOr, Goals: []api.Flat{{Kind: api.FInt, X: 0}}}), nil},
	} {
		list, err := types.Infer(x, r.b)
		held(t, form(r.b), err, r.err)
		if err == nil {
			held(t, form(r.b), len(list), r.b.Vars)
		} else if list != nil {
			t.Errorf("%+v: %v", r.b, list)
		}
	}
}

// P7.1: a call ends also where 2^16 goals are within one another, or beside one another.
func TestDeepAndWide(t *testing.T) {
	_, x := read(t, declared+p("int"))
	for _, kind := range []int{api.FAnd, api.FOr, api.FNot, api.FTry} {
		f := api.Flat{Kind: api.FInt, X: 1}
		for range 1 << 16 {
			f = api.Flat{Kind: kind, X: 2, Goals: []api.Flat{f, {Kind: api.FSame, X: 0, Y: 3}}}
		}
		list, err := types.Infer(x, api.Body{Pred: key("p", 1), Vars: 4, Goal: f})
		held(t, "deep", err, nil)
		held(t, "deep", list[1], integer())
	}
	wide := api.Flat{Kind: api.FAnd}
	for i := range 1 << 16 {
		wide.Goals = append(wide.Goals, api.Flat{Kind: api.FCall, Pred: key("id", 2), Args: []int{i % 200, (i + 1) % 200}})
	}
	list, err := types.Infer(x, api.Body{Pred: key("p", 1), Vars: 200, Goal: wide})
	held(t, "wide", err, nil)
	held(t, "wide", texts(list), strings.TrimSuffix(strings.Repeat("int ", 200), " "))
}

// P7.1: sources that are as long as may be, of many calls at types with many unknowns, are checked in little time.
func TestLongSources(t *testing.T) {
	types8 := "type w(A, B, C, D, E, F, G, H) = w(A, B, C, D, E, F, G, H). type list(T) = nil | cons(T, list(T)).\n"
	var apart, same []string
	for i := range 22 {
		name := string(rune('A' + i))
		apart = append(apart, "w("+strings.Join([]string{name, name + "1", name + "2", name + "3", name + "4", name + "5", name + "6", name + "7"}, ", ")+")")
		same = append(same, "w("+row("A", 8)+")")
	}
	nested := func(list []string) string {
		return "w(w(" + strings.Join(list[:8], ", ") + "), w(" + strings.Join(list[8:16], ", ") + "), " + strings.Join(list[16:22], ", ") + ")"
	}
	for _, declared := range []string{nested(apart), nested(same), "A"} {
		text := types8 + "pred q(" + declared + "). mode q(in) is det. pred p. mode p is det.\np :- "
		for len(text) < 16000 {
			text += "q(X), "
		}
		for _, end := range []string{"q(X).", "q(X), q(Y), X = Y.", "q(X), X = cons(Y, nil), Y = cons(Z, nil), Z = cons(1, nil).", "q(X), X = w(_, _, _, _, _, _, _, Y), Y = w(_, _, _, _, _, _, _, Z), Z = cons(1, _)."} {
			items, x := read(t, text+end)
			err := types.Check(items, x)
			if err != nil && err != api.ErrTypes && err != api.ErrLarge {
				t.Errorf("%s: %v", end, err)
			}
		}
	}
}
