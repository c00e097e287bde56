package modes_test

import (
	"fmt"
	"math"
	"math/rand"
	"reflect"
	"slices"
	"strings"
	"sync"
	"testing"

	"augur/api"
	"augur/modes"
)

// roomy is a copy of a value that shares nothing with it, in which each list has room beyond its end, with marks in it.
func roomy[T any](value T) T { return roomyValue(reflect.ValueOf(value)).Interface().(T) }

func roomyValue(value reflect.Value) reflect.Value {
	made := reflect.New(value.Type()).Elem()
	made.Set(value)
	switch value.Kind() {
	case reflect.Struct:
		for i := range value.NumField() {
			made.Field(i).Set(roomyValue(value.Field(i)))
		}
	case reflect.Slice:
		list := reflect.MakeSlice(value.Type(), 0, value.Len()+3)
		for _, x := range value.Seq2() {
			list = reflect.Append(list, roomyValue(x))
		}
		for range 3 {
			list = reflect.Append(list, mark(value.Type().Elem()))
		}
		made.Set(list.Slice(0, value.Len()))
	}
	return made
}

// mark is a value that no list of a source has.
func mark(of reflect.Type) reflect.Value {
	made := reflect.New(of).Elem()
	switch of.Kind() {
	case reflect.Struct:
		for i := range made.NumField() {
			made.Field(i).Set(mark(made.Field(i).Type()))
		}
	case reflect.Int:
		made.SetInt(-77)
	case reflect.String:
		made.SetString("mark")
	}
	return made
}

// lists calls visit with each list in a value, up to what it has room for.
func lists(value reflect.Value, visit func(reflect.Value)) {
	switch value.Kind() {
	case reflect.Struct:
		for i := range value.NumField() {
			lists(value.Field(i), visit)
		}
	case reflect.Slice:
		visit(value.Slice(0, value.Cap()))
		for _, x := range value.Seq2() {
			lists(x, visit)
		}
	}
}

// rooms tells all that a value's lists have room for.
func rooms(value any) string {
	var told strings.Builder
	lists(reflect.ValueOf(value), func(list reflect.Value) { told.WriteString(form(list.Interface())) })
	return told.String()
}

// span is where a list lies, with what it has room for.
type span struct{ from, to uintptr }

// spans are where a value's lists lie.
func spans(value any) []span {
	var found []span
	lists(reflect.ValueOf(value), func(list reflect.Value) {
		if list.Len() > 0 {
			from := list.Pointer()
			found = append(found, span{from, from + uintptr(list.Len())*list.Type().Elem().Size()})
		}
	})
	return found
}

// isNew asks that an answer shares no memory with others, and that no two of its lists share any.
func isNew(t *testing.T, what string, answer any, others ...any) {
	t.Helper()
	own := spans(answer)
	list := slices.Clone(own)
	for _, other := range others {
		list = append(list, spans(other)...)
	}
	for i, a := range own {
		for j, b := range list {
			if i != j && a.from < b.to && b.from < a.to {
				t.Fatalf("%s: lists of %+v share memory", what, answer)
			}
		}
	}
}

// P8.1, rule 4: no call changes what it is given, and a procedure is new memory.
func TestArgumentsStay(t *testing.T) {
	made := 0
	thrown(t, 21, 250, 5, func(d dice, b body) {
		b = d.other(b)
		b.Body, b.x, b.list = roomy(b.Body), roomy(b.x), roomy(b.list)
		before := rooms(b.Body) + rooms(b.x) + rooms(b.list)
		for mode := range b.modes() {
			p, err := modes.Schedule(b.x, b.Body, b.list, mode)
			again, _ := modes.Schedule(b.x, b.Body, b.list, mode)
			isNew(t, b.text, p, again, b.Body, b.x, b.list)
			if err != nil {
				continue
			}
			made++
			goal := roomy(p.Goal)
			beforeGoal := rooms(goal)
			for range modes.Binds(goal) {
			}
			for _, s := range within(goal) {
				isNew(t, b.text, modes.Reads(s), goal)
			}
			modes.Same(goal, goal)
			held(t, b.text, rooms(goal), beforeGoal)
		}
		held(t, b.text, rooms(b.Body)+rooms(b.x)+rooms(b.list), before)
	})
	if made < 100 {
		t.Error(made)
	}
}

// P8.1, rule 4: what becomes of what was handed in, or of an answer, shows nowhere.
func TestAnswersAreApart(t *testing.T) {
	b := scheduled{args: "t, list(t)", ways: "ii", clauses: "p(X, Y) :- mix(X, _, X, Y), X = g(Z, Z)."}.body(t)
	p, err := modes.Schedule(b.x, b.Body, b.list, 0)
	held(t, b.text, err, nil)
	kept := form(p)
	b.list[1].Args[0].Name = "spoilt"
	b.Goal.Goals[0].Args[1] = 77
	at := slices.IndexFunc(b.x.Preds, func(p api.Pred) bool { return p.Key == b.Pred })
	b.x.Preds[at].Modes[0].In[0] = false
	held(t, b.text, form(p), kept)
	// Types that stand for several variables are apart, too.
	b = scheduled{args: "list(t)", ways: "i", clauses: "p(X) :- cat(X, X, X), cat(Y, X, X)."}.body(t)
	p, err = modes.Schedule(b.x, b.Body, b.list, 0)
	held(t, b.text, err, nil)
	held(t, b.text, typeTexts(p.Types), "list(t) list(t) list(t) list(t)")
	p.Types[2].Args[0].Name = "spoilt"
	held(t, b.text, typeTexts(p.Types), "list(t) list(t) list(spoilt) list(t)")
}

// P8.1, P7, rule 7: what a call returns hangs on its arguments alone: not on other calls before it or beside it.
func TestCallsAreApart(t *testing.T) {
	var all sync.WaitGroup
	for seed := range 8 {
		all.Go(func() {
			thrown(t, int64(30+seed%4), 40, 4, func(d dice, b body) {
				for mode := range b.modes() {
					p, err := modes.Schedule(b.x, b.Body, b.list, mode)
					kept := form(p)
					again, againErr := modes.Schedule(b.x, b.Body, b.list, mode)
					held(t, b.text, form(p), kept)
					held(t, b.text, again, p)
					held(t, b.text, againErr, err)
				}
			})
		})
	}
	all.Wait()
}

// P7: names of variables don't matter, nor does the rest of the source.
func TestNamesDontMatter(t *testing.T) {
	rename := strings.NewReplacer("T0", "A", "T1", "_1", "T2", "L0", "I0", "T2", "I1", "E", "L0", "Name_", "E", "I0", "F", "X_")
	count := 0
	thrown(t, 41, 600, 4, func(_ dice, b body) {
		other := "type other = other. pred other(other, t). mode other(in, out) is det. other(other, a).\n" + declared + rename.Replace(b.text)
		items, x := read(t, other)
		otherB, list := bodyOf(t, items, x, b.Pred)
		for mode := range b.modes() {
			p, err := modes.Schedule(b.x, b.Body, b.list, mode)
			otherP, otherErr := modes.Schedule(x, otherB, list, mode)
			held(t, b.text, otherErr, err)
			held(t, b.text, otherP, p)
			if err == nil {
				count++
			}
		}
	})
	if count < 300 {
		t.Error(count)
	}
}

// odd throws indexes, bodies and goals that no layer makes.
type odd struct{ *rand.Rand }

func repeated[T any](count int, make func() T) []T {
	var list []T
	for range count {
		list = append(list, make())
	}
	return list
}

func (o odd) name() string { return one(dice(o), "", "p", "p", "add", "X", "\xff") }

func (o odd) number() int {
	return one(dice(o), 0, 1, 2, 3, 3, 4, 5, 6, 7, 8, 9, 10, 11, 12, 13, 14, 15, 16, -1, math.MaxInt, math.MinInt)
}

func (o odd) key() api.Key { return key(o.name(), one(dice(o), 0, 1, 2, 2, o.number())) }

// variable is mostly one that a body has.
func (o odd) variable() int { return one(dice(o), o.Intn(4), o.Intn(4), o.Intn(4), o.number()) }

func (o odd) mode() api.Mode {
	return api.Mode{In: repeated(o.Intn(4), func() bool { return o.Intn(2) == 0 }), Det: o.number()}
}

func (o odd) pred() api.Pred {
	return api.Pred{Key: o.key(), Modes: repeated(o.Intn(4), o.mode), Clauses: repeated(o.Intn(3), o.number)}
}

func (o odd) goal() api.Flat {
	return api.Flat{Kind: o.number(), X: o.variable(), Y: o.variable(), Int: o.number(), Ctor: o.key(), Pred: o.key(), Args: repeated(o.Intn(3), o.variable), Goals: repeated(o.Intn(5)*o.Intn(2), o.within)}
}

// within is a goal within another one, mostly without goals of its own.
func (o odd) within() api.Flat {
	if o.Intn(3) == 0 {
		return o.goal()
	}
	return api.Flat{Kind: o.Intn(12), X: o.variable(), Y: o.variable(), Pred: o.key(), Args: repeated(o.Intn(3), o.variable)}
}

func (o odd) typ() api.Type {
	return api.Type{Kind: o.number(), Name: o.name(), Var: o.number(), Args: repeated(o.Intn(5)/3, o.typ)}
}

func (o odd) sched() api.Sched {
	return api.Sched{Kind: o.number(), X: o.number(), Y: o.number(), Args: repeated(o.Intn(4), o.number), Goals: repeated(o.Intn(4)*o.Intn(2), o.sched), Cases: repeated(o.Intn(3), o.key)}
}

// P8.1, rules 1 and 2: every call ends without a panic, whatever it is given, with nothing beside an error.
func TestOddArguments(t *testing.T) {
	o, counts := odd{rand.New(rand.NewSource(25))}, map[error]int{}
	for range 25000 {
		x := api.Index{Preds: repeated(o.Intn(6), o.pred)}
		b := api.Body{Pred: o.key(), Vars: one(dice(o), 4, 4, 4, o.number()), Goal: o.goal()}
		if len(x.Preds) > 0 && o.Intn(8) > 0 {
			b.Pred = x.Preds[0].Key
		}
		p, err := modes.Schedule(x, b, repeated(o.Intn(6), o.typ), one(dice(o), 0, 0, 0, 1, o.number()))
		counts[err]++
		switch err {
		case nil:
			held(t, form(b), p.Id.Pred, b.Pred)
		case api.ErrNone, api.ErrModes, api.ErrLarge:
			held(t, form(b), p, api.Proc{})
		default:
			t.Fatalf("%+v of %+v: %v", b, x, err)
		}
		s, other := o.sched(), o.sched()
		modes.Reads(s)
		for range modes.Binds(s) {
		}
		held(t, form(s), modes.Same(s, other), form(s) == form(other))
		held(t, form(s), modes.Same(s, roomy(s)), true)
	}
	if counts[nil] < 700 || counts[api.ErrNone] < 5000 || counts[api.ErrModes] < 5000 || counts[api.ErrLarge] < 10 {
		t.Error(counts)
	}
}

// P8.1, rule 1: goals that no layer makes are never ready.
func TestOddGoals(t *testing.T) {
	b := scheduled{args: "t", ways: "i", clauses: "p(X)."}.body(t)
	yes := api.Flat{Kind: api.FTrue}
	for _, f := range []api.Flat{
		{},
		{Kind: -1},
		{Kind: 12},
		{Kind: api.FAnd, Goals: []api.Flat{yes, {Kind: api.FAnd, Goals: []api.Flat{yes, yes}}}},
		{Kind: api.FNot},
		{Kind: api.FNot, Goals: []api.Flat{yes, yes}},
		{Kind: api.FTry},
		{Kind: api.FTry, X: 1, Goals: []api.Flat{yes}},
		{Kind: api.FTry, X: 1, Goals: []api.Flat{yes, yes, yes}},
		{Kind: api.FCall, Pred: key("nosuch", 0)},
		{Kind: api.FCall, Pred: key("r", 1)},
		{Kind: api.FCall, Pred: key("r", 1), Args: []int{0, 0}},
	} {
		b.Goal = f
		held(t, form(f), tried(t, b, 0, 0), outcome{err: api.ErrModes})
	}
	// Lists of few goals are lists as well.
	for _, c := range []struct {
		f           api.Flat
		want, types string
	}{
		{api.Flat{Kind: api.FAnd}, "true", "t"},
		{api.Flat{Kind: api.FAnd, Goals: []api.Flat{{Kind: api.FFail}}}, "fail", "t"},
		{api.Flat{Kind: api.FOr}, "or()", "t"},
		{api.Flat{Kind: api.FOr, Goals: []api.Flat{yes}}, "or(true)", "t"},
		// A variable that the body doesn't have has no type.
		{api.Flat{Kind: api.FAnd, Goals: []api.Flat{{Kind: api.FInt, X: -1}, {Kind: api.FCall, Pred: key("free", 1), Args: []int{-1}}}}, "[load -1 0, free'0 1, test 1 -1]", "t "},
		{api.Flat{Kind: api.FAnd, Goals: []api.Flat{{Kind: api.FInt, X: 7}, {Kind: api.FCall, Pred: key("free", 1), Args: []int{7}}}}, "[load 7 0, free'0 1, test 1 7]", "t "},
	} {
		b.Goal = c.f
		held(t, form(c.f), tried(t, b, 0, 0), outcome{goal: c.want, types: c.types})
	}
}

// P8.1: a call ends also where 2^16 goals are within one another, or beside one another.
func TestDeepAndWide(t *testing.T) {
	b := scheduled{args: "t, t", ways: "ii", clauses: "p(X, Y) :- Z = X, Z = Y."}.body(t)
	for _, kind := range []int{api.FAnd, api.FOr, api.FNot, api.FTry} {
		f := api.Flat{Kind: api.FSame, X: 2, Y: 0}
		for range 1 << 16 {
			f = api.Flat{Kind: kind, X: 1, Goals: []api.Flat{f}}
			if kind == api.FTry {
				f.Goals = append(f.Goals, api.Flat{Kind: api.FTrue})
			}
		}
		b.Goal = f
		want := api.ErrLarge
		if kind == api.FAnd {
			want = api.ErrModes
		}
		held(t, fmt.Sprint("deep ", kind), tried(t, b, 0, 0), outcome{err: want})
	}
	wide := api.Flat{Kind: api.FAnd}
	for i := range 1 << 16 {
		wide.Goals = append(wide.Goals, api.Flat{Kind: api.FSame, X: 5, Y: i%2 + 3})
	}
	b.Goal = wide
	held(t, "wide", tried(t, b, 0, 0), outcome{err: api.ErrLarge})
	s := load(1)
	for v := range 1 << 16 {
		s = goal(api.STry, v%300, s, load(v%2))
	}
	held(t, "deep", len(slices.Collect(modes.Binds(s))), 300)
	held(t, "deep", modes.Same(s, s), true)
}

// P8.1: sources that are as long as may be are scheduled in little time.
func TestLongSources(t *testing.T) {
	not := "not (" + strings.ReplaceAll(many("mix(A, B, A, C)", 550), " ", "") + ")"
	for _, clauses := range []string{
		"p :- r(A), " + many(not, 1) + strings.Repeat(",q", 1700) + ",A=a.",
		"p :- try q catch B then " + strings.TrimPrefix(not, "not ") + strings.Repeat(",q", 1700) + ",B=1.",
		"p :- " + strings.Repeat("not ", 55) + "(" + strings.ReplaceAll(many("r(A)", 1500), " ", "") + ")" + strings.Repeat(",q", 1900) + ",A=a.",
		"p :- (r(A) ; " + strings.ReplaceAll(many("mix(B, C, B, D)", 550), " ", "") + ")" + strings.Repeat(",q", 1700) + ",B=a.",
	} {
		got := scheduled{clauses: clauses}.run(t)
		if got.err != nil && got.err != api.ErrModes && got.err != api.ErrLarge {
			t.Error(got.err)
		}
	}
}
