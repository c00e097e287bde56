package detism_test

import (
	"fmt"
	"math"
	"reflect"
	"slices"
	"strings"
	"sync"
	"testing"

	"augur/api"
	"augur/detism"
	"augur/parse"
)

// roomy is a copy of a value that shares nothing with it, in which each list has room beyond its end, with marks in it.
func roomy[T any](value T) T { return roomyValue(reflect.ValueOf(value)).Interface().(T) }

func roomyValue(value reflect.Value) reflect.Value {
	made := reflect.New(value.Type()).Elem()
	made.Set(value)
	switch value.Kind() {
	case reflect.Struct:
		for i := range value.NumField() {
			made.Field(i).Set(roomyValue(value.Field(i)))
		}
	case reflect.Slice:
		list := reflect.MakeSlice(value.Type(), 0, value.Len()+3)
		for _, x := range value.Seq2() {
			list = reflect.Append(list, roomyValue(x))
		}
		for range 3 {
			list = reflect.Append(list, mark(value.Type().Elem()))
		}
		made.Set(list.Slice(0, value.Len()))
	}
	return made
}

// mark is a value that no list of a source has.
func mark(of reflect.Type) reflect.Value {
	made := reflect.New(of).Elem()
	switch of.Kind() {
	case reflect.Struct:
		for i := range made.NumField() {
			made.Field(i).Set(mark(made.Field(i).Type()))
		}
	case reflect.Int:
		made.SetInt(-77)
	case reflect.String:
		made.SetString("mark")
	}
	return made
}

// rooms tells all that a value's lists have room for.
func rooms(value any) string {
	var told strings.Builder
	var visit func(reflect.Value)
	visit = func(v reflect.Value) {
		switch v.Kind() {
		case reflect.Struct:
			for i := range v.NumField() {
				visit(v.Field(i))
			}
		case reflect.Slice:
			told.WriteString(form(v.Slice(0, v.Cap()).Interface()))
			for _, x := range v.Seq2() {
				visit(x)
			}
		}
	}
	visit(reflect.ValueOf(value))
	return told.String()
}

// P9.1, rule 4: no call changes what it is given, also not where its lists have room, nor what it answered before.
func TestArgumentsStay(t *testing.T) {
	d := newGoals(t, 6)
	x := roomy(d.x)
	indexBefore := rooms(x)
	for range 400 {
		p := roomy(d.proc(one(d.dice, d.or, d.goal)(2)))
		before := rooms(p)
		got := detism.Switches(x, p)
		kept := rooms(got)
		inferred(t, before, x, p)
		checked(t, before, x, p)
		inferred(t, before, x, got)
		detism.Find([]api.Proc{p, got}, p.Id)
		held(t, before, detism.Switches(x, got), got)
		held(t, before, detism.Switches(x, p), got)
		held(t, before, rooms(p), before)
		held(t, before, rooms(got), kept)
	}
	held(t, "index", rooms(x), indexBefore)
	items, _ := read(t, appendSource+memberSource+evenSource)
	items = roomy(items)
	before := rooms(items)
	_, procs, err := detism.Compile(items)
	held(t, "examples", err, nil)
	kept := rooms(procs)
	_, again, _ := detism.Compile(items)
	held(t, "examples", again, procs)
	held(t, "examples", rooms(procs), kept)
	held(t, "examples", rooms(items), before)
}

// P9.1, rule 4: what becomes of a source shows in none of its procedures.
func TestAnswersAreApart(t *testing.T) {
	items, _ := read(t, appendSource+memberSource+evenSource)
	x, procs, err := detism.Compile(items)
	held(t, "examples", err, nil)
	kept := form(x) + form(procs)
	for i := range items {
		spoil(reflect.ValueOf(&items[i]).Elem())
	}
	held(t, "examples", form(x)+form(procs), kept)
}

// spoil changes all of a value, also what its lists have.
func spoil(v reflect.Value) {
	switch v.Kind() {
	case reflect.Struct:
		for i := range v.NumField() {
			spoil(v.Field(i))
		}
	case reflect.Slice:
		for _, x := range v.Seq2() {
			spoil(x)
		}
	case reflect.Int:
		v.SetInt(v.Int() + 1)
	case reflect.Bool:
		v.SetBool(!v.Bool())
	case reflect.String:
		v.SetString(v.String() + "z")
	}
}

// P9.1, P7, rule 7: what a call returns hangs on its arguments alone: not on other calls before it or beside it.
func TestCallsAreApart(t *testing.T) {
	var all sync.WaitGroup
	for seed := range 8 {
		all.Go(func() {
			d := newDice(int64(30 + seed%4))
			for range 60 {
				text := d.source()
				items, _ := parse.Source(text)
				x, procs, err := detism.Compile(items)
				kept := form(x) + form(procs)
				againX, again, againErr := detism.Compile(items)
				held(t, text, form(againX)+form(again), kept)
				held(t, text, form(x)+form(procs), kept)
				held(t, text, againErr, err)
			}
		})
	}
	all.Wait()
}

// P7: names of variables don't matter, nor do predicates and types that are beside.
func TestNamesDontMatter(t *testing.T) {
	rename := strings.NewReplacer("X", "V", "Y", "Name_", "Z", "E", "V", "_1", "E", "X", "I", "Y", "J", "Z")
	const beside = "type other = other(other) | none. pred other(other, other). mode other(in, out) is det. other(none, none). other(other(X), other(Y)) :- other(X, Y).\n"
	d, count := newDice(41), 0
	for range 1500 {
		text := d.source()
		items, _ := parse.Source(text)
		_, procs, err := detism.Compile(items)
		otherItems, parseErr := parse.Source(beside + rename.Replace(text))
		held(t, text, parseErr, nil)
		_, other, otherErr := detism.Compile(otherItems)
		held(t, text, otherErr, err)
		if err == nil {
			count++
			held(t, text, other[1:], procs)
		}
	}
	if count < 150 {
		t.Error(count)
	}
}

// odd throws procedures and indexes that no layer makes.
type odd struct{ dice }

func (o odd) name() string { return one(o.dice, "", "p", "p", "t", "t", "lt", "\xff") }

func (o odd) number() int {
	return one(o.dice, 0, 1, 2, 3, 4, 5, 6, 7, 8, 8, 8, 9, 10, 10, 11, 11, 11, 12, 13, 14, 15, 15, 16, -1, math.MaxInt, math.MinInt)
}

func (o odd) key() api.Key { return key(o.name(), one(o.dice, 0, 1, 2, 2, o.number())) }

func (o odd) typ() api.Type {
	return api.Type{Kind: one(o.dice, api.TyData, o.number()), Name: o.name(), Var: o.number(), Args: repeated(o.Intn(5)/3, o.typ)}
}

func (o odd) pred() api.Pred {
	mode := func() api.Mode { return api.Mode{Det: o.number()} }
	return api.Pred{Key: o.key(), Modes: repeated(o.Intn(3), mode), Clauses: repeated(o.Intn(3), o.number)}
}

func (o odd) sched() api.Sched {
	return api.Sched{
		Kind: o.number(), X: one(o.dice, 0, 1, o.number()), Y: o.number(), Ctor: o.key(), Proc: api.ProcId{Pred: o.key(), Mode: one(o.dice, 0, 1, o.number())},
		Args: repeated(o.Intn(4), o.number), Goals: repeated(o.Intn(4)*o.Intn(2), o.sched), Cases: repeated(o.Intn(3), o.key),
	}
}

func (o odd) proc() api.Proc {
	return api.Proc{Id: api.ProcId{Pred: o.key(), Mode: o.number()}, Det: o.number(), Types: repeated(o.Intn(4), o.typ), Vars: o.number(), Goal: o.sched()}
}

// P9.1, rules 1 and 2: every call ends without a panic, whatever it is given, with nothing beside an error.
func TestOddArguments(t *testing.T) {
	o, counts := odd{newDice(25)}, map[string]int{}
	for range 20000 {
		ctor := func() api.Ctor { return api.Ctor{Key: o.key(), Type: o.name(), Tag: o.number()} }
		x := api.Index{Preds: repeated(o.Intn(6), o.pred), Ctors: repeated(o.Intn(6), ctor)}
		p, other := o.proc(), o.proc()
		what := form(p)
		counts[inferred(t, what, x, p)]++
		if err := detism.Check(x, p); err != nil {
			held(t, what, err, api.ErrDet)
		}
		got := detism.Switches(x, p)
		held(t, what, detism.Switches(x, got), got)
		got.Goal = p.Goal
		held(t, what, got, p)
		found, ok := detism.Find([]api.Proc{other}, p.Id)
		held(t, what, ok, other.Id == p.Id)
		held(t, what, found.Id, map[bool]api.ProcId{true: p.Id}[ok])
	}
	for _, word := range words() {
		if counts[word] < 100 {
			t.Error(counts)
		}
	}
}

// P9.1: a goal that names what isn't there may do nothing, unless it is an SMatch, which may fail.
func TestWhatIsNotThere(t *testing.T) {
	judges(t,
		judged{"t", "nosuch'0", "det"},
		judged{"t", "any'1", "det"},
		judged{"t", "match 1 a", "semidet"},
		judged{"t", "match -1 a", "semidet"},
		judged{"int T", "match 0 a", "semidet"},
		judged{"int T", "match 1 a", "semidet"},
		judged{"t", "switch 1 (a/0: true)", "det"},
		judged{"int", "switch 0 (a/0: true)", "det"},
	)
}

// P9.1: Compile ends without a panic for items that no parser makes, too.
func TestOddItems(t *testing.T) {
	counts := map[error]int{}
	o := odd{newDice(26)}
	term := func() api.Term { return api.Term{Kind: o.number(), Name: o.name()} }
	goal := func() api.Goal {
		return api.Goal{Kind: o.number(), Name: o.name(), A: term(), B: term(), Args: repeated(o.Intn(3), term)}
	}
	for range 20000 {
		item := func() api.Item {
			g := goal()
			g.Goals = repeated(o.Intn(3), goal)
			return api.Item{Kind: one(o.dice, 1, 2, 3, 4, 4, o.number()), Name: o.name(), Det: o.number(), Args: repeated(o.Intn(2), term), Body: g}
		}
		items := repeated(o.Intn(8), item)
		x, procs, err := detism.Compile(items)
		counts[err]++
		if err != nil {
			held(t, form(items), x, api.Index{})
			held(t, form(items), procs, []api.Proc(nil))
		}
	}
	if counts[nil] < 500 || counts[api.ErrNames] < 5000 {
		t.Error(counts)
	}
}

// nested is a goal within 2^16 others of a kind, where each has others beside it.
func nested(kind int, inner api.Sched) api.Sched {
	for i := range 1 << 16 {
		match := api.Sched{Kind: api.SMatch, X: i % 7, Ctor: key([]string{"a", "b"}[i%2], 0)}
		switch kind {
		case api.SNot:
			inner = api.Sched{Kind: kind, Goals: []api.Sched{inner}}
		case api.SSwitch:
			inner = api.Sched{Kind: kind, X: i, Cases: []api.Key{match.Ctor, key("f", 1)}, Goals: []api.Sched{match, inner}}
		default:
			inner = api.Sched{Kind: kind, X: 1, Goals: []api.Sched{match, inner}}
		}
	}
	return inner
}

// P9.1: a call ends also where 2^16 goals are within one another.
func TestDeep(t *testing.T) {
	_, x := read(t, declared)
	for kind, want := range map[int]string{api.SAnd: "nondet", api.SOr: "nondet", api.SNot: "", api.STry: "", api.SSwitch: "nondet"} {
		p := procOf(t, "t t t t t t t", "true")
		p.Goal = nested(kind, goalOf(t, "any'0"))
		held(t, fmt.Sprint("deep ", kind), inferred(t, "deep", x, p), want)
		got := detism.Switches(x, p)
		if kind != api.SOr && !reflect.DeepEqual(got, p) {
			t.Error("deep", kind)
		}
		held(t, fmt.Sprint("deep ", kind), inferred(t, "deep", x, got), want)
	}
}

// P9.1: a call ends also where very many goals are beside one another.
func TestWide(t *testing.T) {
	_, x := read(t, declared)
	p := procOf(t, "t", "true")
	p.Goal = api.Sched{Kind: api.SOr}
	for i := range 1 << 17 {
		p.Goal.Goals = append(p.Goal.Goals, api.Sched{Kind: api.SMatch, X: 0, Ctor: key([]string{"a", "b", "f"}[i%3], i%3/2)})
	}
	got := detism.Switches(x, p).Goal
	held(t, "wide", got.Kind, api.SSwitch)
	held(t, "wide", got.Cases, []api.Key{key("a", 0), key("b", 0), key("f", 1)})
	for i, part := range got.Goals {
		held(t, "wide", len(part.Goals), (1<<17+2-i)/3)
	}
	// Each constructor is one of its own.
	for i := range p.Goal.Goals {
		p.Goal.Goals[i].Ctor = key("a", i)
	}
	got = detism.Switches(x, p).Goal
	held(t, "wide", got.Kind, api.SSwitch)
	held(t, "wide", len(got.Goals), 1<<17)
	p.Goal.Kind = api.SAnd
	held(t, "wide", inferred(t, "wide", x, p), "semidet")
}

// P9.1: sources that are as long as may be are compiled in little time.
func TestLongSources(t *testing.T) {
	for _, c := range []struct {
		what, source string
		procs        int
	}{
		{"many modes and calls", manyModes(8, 256, strings.Repeat("p(A,B,C,D,E,F,G,H),", 100)), 256},
		{"many modes and clauses", manyModes(6, 64, ""), 64},
		{"many constructors", manyCtors("in"), 1},
		{"many constructors", manyCtors("out"), 1},
		{"many switches", manySwitches(), 1},
		{"deep switches", deepSwitches(), 1},
	} {
		if len(c.source) > api.MaxSource {
			t.Fatal(c.what, len(c.source))
		}
		items, err := parse.Source(c.source)
		held(t, c.what, err, nil)
		x, procs, err := detism.Compile(items)
		held(t, c.what, err, nil)
		held(t, c.what, len(procs), c.procs)
		for _, p := range procs {
			held(t, c.what, inferred(t, c.what, x, p), sheet{x, p.Types}.is(p.Goal))
		}
	}
}

// manyModes is a predicate with all ways of so many arguments, which ends with calls of itself.
func manyModes(arity, count int, calls string) string {
	text := "type t=a|b.pred p(" + strings.TrimSuffix(strings.Repeat("t,", arity), ",") + ")."
	for mode := range count {
		var ways []string
		for i := range arity {
			ways = append(ways, []string{"in", "out"}[mode>>i&1])
		}
		text += "mode p(" + strings.Join(ways, ",") + ")is nondet."
	}
	vars := strings.Join(strings.Split("ABCDEFGH"[:arity], ""), ",")
	if calls != "" {
		return text + "p(" + vars + "):-" + calls + "A=a."
	}
	for range 220 {
		text += "p(" + strings.TrimSuffix(strings.Repeat("a,", arity), ",") + ").p(" + strings.TrimSuffix(strings.Repeat("b,", arity), ",") + ")."
	}
	return text
}

// manyCtors is a type with many constructors, and a predicate with a clause for each.
func manyCtors(way string) string {
	var ctors, clauses []string
	for i := range 420 {
		ctors = append(ctors, fmt.Sprint("c", i))
		clauses = append(clauses, fmt.Sprint("p(c", i, ")."))
	}
	slices.Reverse(clauses)
	return "type t=" + strings.Join(ctors, "|") + ".pred p(t).mode p(" + way + ")is nondet." + strings.Join(clauses, "")
}

// manySwitches is one SOr behind the other.
func manySwitches() string {
	return "type t=a|b.pred p(t).mode p(in)is semidet.p(A):-" + strings.Repeat("(A=a;A=b),", 1300) + "A=a."
}

// deepSwitches is clauses each of which asks one variable more than the one before.
func deepSwitches() string {
	text := "type t=a|b.pred p(t,t,t,t,t,t,t,t).mode p(in,in,in,in,in,in,in,in)is nondet."
	for i := range 400 {
		var args []string
		for v := range 8 {
			args = append(args, []string{"a", "b"}[i>>v&1])
		}
		text += "p(" + strings.Join(args, ",") + ")."
	}
	return text
}
