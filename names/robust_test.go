package names_test

import (
	"math"
	"math/rand"
	"reflect"
	"strings"
	"sync"
	"testing"

	"augur/api"
	"augur/names"
	"augur/parse"
)

// roomy is a copy of a value in which each list has room beyond its end, with junk in it.
func roomy(value reflect.Value) reflect.Value {
	made := reflect.New(value.Type()).Elem()
	switch value.Kind() {
	case reflect.Struct:
		for i := range value.NumField() {
			made.Field(i).Set(roomy(value.Field(i)))
		}
	case reflect.Slice:
		made.Set(reflect.MakeSlice(value.Type(), value.Len()+3, value.Len()+3))
		for i := range value.Len() {
			made.Index(i).Set(roomy(value.Index(i)))
		}
		for i := value.Len(); i < made.Len(); i++ {
			junk(made.Index(i))
		}
		made.Set(made.Slice(0, value.Len()))
	default:
		made.Set(value)
	}
	return made
}

func junk(value reflect.Value) {
	switch value.Kind() {
	case reflect.Struct:
		for i := range value.NumField() {
			junk(value.Field(i))
		}
	case reflect.String:
		value.SetString("junk")
	case reflect.Int:
		value.SetInt(77)
	}
}

// everything is a copy of a value that shares nothing with it, where each list is as long as it has room.
func everything(value reflect.Value) reflect.Value {
	all := reflect.New(value.Type()).Elem()
	switch value.Kind() {
	case reflect.Struct:
		for i := range value.NumField() {
			all.Field(i).Set(everything(value.Field(i)))
		}
	case reflect.Slice:
		for _, x := range value.Slice(0, value.Cap()).Seq2() {
			all = reflect.Append(all, everything(x))
		}
	default:
		all.Set(value)
	}
	return all
}

// stays asks that a call changes nothing in what it is given, nor in what that has room for.
func stays[T any](t *testing.T, given T, call func(T)) {
	t.Helper()
	given = roomy(reflect.ValueOf(given)).Interface().(T)
	before := form(everything(reflect.ValueOf(given)).Interface())
	call(given)
	same(t, "what was given", everything(reflect.ValueOf(given)).Interface(), before)
}

// P4.1: no call changes what it is given.
func TestArgumentsStay(t *testing.T) {
	thrown(4, 150, func(_ *dice, text string) {
		items, err := parse.Source(text)
		if err != nil {
			return
		}
		stays(t, items, func(items []api.Item) { _, _ = names.Resolve(items) })
		x, err := names.Resolve(items)
		if err != nil {
			return
		}
		stays(t, x, func(x api.Index) {
			for _, name := range []string{"a", "b", "t", "p", "q", "add", "c"} {
				for arity := range 4 {
					names.Ctor(x, key(name, arity))
					p, _ := names.Pred(x, key(name, arity))
					names.Mode(p, []bool{true, false, true}[:arity])
				}
				names.Ctors(x, name)
			}
		})
	})
	stays(t, []bool{true, false}, func(in []bool) { names.Mode(api.Pred{Modes: []api.Mode{mode(api.Det, true, false)}}, in) })
}

// P4.1: what a call returns hangs on its arguments alone: not on other calls before it or beside it.
func TestCallsAreApart(t *testing.T) {
	var all sync.WaitGroup
	for seed := range 8 {
		all.Go(func() {
			thrown(int64(5+seed%4), 40, func(_ *dice, text string) {
				items, err := parse.Source(text)
				if err != nil {
					return
				}
				first, firstErr := names.Resolve(items)
				kept := form(first)
				_, _ = names.Resolve([]api.Item{{Kind: api.ItemPred, Name: "p"}, {Kind: api.ItemMode, Name: "p"}, {Kind: api.ItemType, Name: "t"}})
				second, secondErr := names.Resolve(items)
				same(t, text, form(first), kept)
				same(t, text, form(second), kept)
				same(t, text, secondErr, firstErr)
			})
		})
	}
	all.Wait()
}

// odd throws items that no parser makes.
type odd struct{ *rand.Rand }

func (o odd) name() string {
	return []string{"", "p", "t", "int", "add", "X", "_", "%", "\xff", strings.Repeat("n", 50)}[o.Intn(10)]
}

func (o odd) number() int {
	return []int{0, -1, 1, 2, 3, 4, 9, math.MaxInt, math.MinInt}[o.Intn(9)]
}

// few is up to most of what make makes.
func few[T any](o odd, most int, make func() T) []T {
	var list []T
	for range o.Intn(most + 1) {
		list = append(list, make())
	}
	return list
}

func (o odd) typeExpr() api.TypeExpr {
	return api.TypeExpr{Var: o.Intn(2) == 0, Name: o.name(), Args: few(o, 1, o.typeExpr)}
}

func (o odd) term() api.Term {
	return api.Term{Kind: o.number(), Name: o.name(), Int: o.number(), Args: few(o, 1, o.term)}
}

func (o odd) goal() api.Goal {
	return api.Goal{Kind: o.Intn(12) - 1, A: o.term(), B: o.term(), Name: o.name(), Args: few(o, 2, o.term), Goals: few(o, 1, o.goal)}
}

func (o odd) item() api.Item {
	return api.Item{Kind: o.Intn(6), Name: o.name(), Vars: few(o, 3, o.name), Types: few(o, 3, o.typeExpr), Det: o.number(), Args: few(o, 3, o.term), Body: o.goal(),
		Ctors: few(o, 3, func() api.CtorDecl { return api.CtorDecl{Name: o.name(), Args: few(o, 2, o.typeExpr)} }),
		In:    few(o, 10, func() bool { return o.Intn(2) == 0 })}
}

// P4.1: every call ends without a panic, also for items that are not a result of layer 2.
func TestOddItems(t *testing.T) {
	o := odd{rand.New(rand.NewSource(6))}
	for range 5000 {
		items := few(o, 4, o.item)
		x, err := names.Resolve(items)
		if err != nil {
			x = api.Index{Types: items}
		}
		for range 5 {
			k := key(o.name(), o.number())
			names.Ctor(x, k)
			names.Pred(x, k)
			names.Ctors(x, k.Name)
			names.Builtin(k)
			names.Mode(api.Pred{Key: k, Modes: few(o, 2, func() api.Mode { return api.Mode{In: few(o, 2, func() bool { return true })} })}, few(o, 2, func() bool { return true }))
		}
	}
	if _, err := names.Resolve(make([]api.Item, 100000)); err != nil {
		t.Log(err) // nothing is promised but that it ends
	}
}

// P4.1: a call ends also where 2^16 parts are nested in one another.
func TestOddDepth(t *testing.T) {
	deepTerm, deepType, deepGoal := api.Term{Kind: api.TVar, Name: "X"}, typ("int"), api.Goal{Kind: api.GTrue}
	for range 1 << 16 {
		deepTerm = api.Term{Kind: api.TCtor, Name: "h", Args: []api.Term{deepTerm}}
		deepType = typ("l", deepType)
		deepGoal = api.Goal{Kind: api.GNot, Goals: []api.Goal{deepGoal}}
	}
	items := parsed(t, "type l(T) = h(T). pred p(int). mode p(in) is det. p(X).")
	for _, change := range []func(){
		func() { items[1].Types[0] = deepType },
		func() { items[0].Ctors[0].Args[0] = deepType },
		func() { items[3].Args[0] = deepTerm },
		func() { items[3].Body = deepGoal },
		func() { items[3].Body = api.Goal{Kind: api.GThrow, A: deepTerm} },
	} {
		change()
		x, err := names.Resolve(items)
		if err == nil {
			names.Pred(x, key("p", 1))
			names.Ctors(x, "l")
		}
	}
}
