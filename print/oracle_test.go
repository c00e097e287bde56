package print_test

import (
	"fmt"
	"math"
	"math/rand"
	"reflect"
	"strings"
	"sync"
	"testing"

	"augur/api"
	"augur/print"
)

// The forms once more, as sentences with holes: all that the functions return is held against them.

// each is the forms of a list's elements.
func each[T any](list []T, form func(T) string) []string {
	var forms []string
	for _, x := range list {
		forms = append(forms, form(x))
	}
	return forms
}

// like is a name with arguments.
func like(name string, args []string) string {
	if len(args) == 0 {
		return name
	}
	return fmt.Sprintf("%s(%s)", name, strings.Join(args, ", "))
}

func termForm(t api.Term) string {
	name := t.Name
	if t.Kind == api.TInt {
		name = fmt.Sprint(t.Int)
	}
	return like(name, each(t.Args, termForm))
}

func typeForm(t api.TypeExpr) string { return like(t.Name, each(t.Args, typeForm)) }

// enclosed has each pair of Kinds, the outer one first, of which the inner one is in parentheses.
var enclosed = map[[2]int]bool{
	{api.GOr, api.GOr}: true, {api.GAnd, api.GOr}: true, {api.GAnd, api.GAnd}: true,
	{api.GNot, api.GAnd}: true, {api.GNot, api.GOr}: true, {api.GTry, api.GAnd}: true, {api.GTry, api.GOr}: true,
}

func goalForm(g api.Goal) string {
	parts := each(g.Goals, func(part api.Goal) string {
		if enclosed[[2]int{g.Kind, part.Kind}] {
			return "(" + goalForm(part) + ")"
		}
		return goalForm(part)
	})
	first := append(parts[:len(parts):len(parts)], "", "")
	switch g.Kind {
	case api.GTrue:
		return "true"
	case api.GFail:
		return "fail"
	case api.GUnify:
		return termForm(g.A) + " = " + termForm(g.B)
	case api.GCall:
		return like(g.Name, each(g.Args, termForm))
	case api.GAnd:
		return strings.Join(parts, ", ")
	case api.GOr:
		return strings.Join(parts, " ; ")
	case api.GNot:
		return "not " + first[0]
	case api.GThrow:
		return "throw " + termForm(g.A)
	case api.GTry:
		return fmt.Sprintf("try %s catch %s then %s", first[0], g.Name, first[1])
	}
	return ""
}

func itemForm(it api.Item) string {
	switch it.Kind {
	case api.ItemType:
		vars := each(it.Vars, func(name string) string { return name })
		ctors := each(it.Ctors, func(c api.CtorDecl) string { return like(c.Name, each(c.Args, typeForm)) })
		return fmt.Sprintf("type %s = %s.\n", like(it.Name, vars), strings.Join(ctors, " | "))
	case api.ItemPred:
		return fmt.Sprintf("pred %s.\n", like(it.Name, each(it.Types, typeForm)))
	case api.ItemMode:
		ways := each(it.In, func(in bool) string { return map[bool]string{true: "in", false: "out"}[in] })
		det := map[int]string{api.Det: "det", api.Semidet: "semidet", api.Multi: "multi", api.Nondet: "nondet"}[it.Det]
		return fmt.Sprintf("mode %s is %s.\n", like(it.Name, ways), det)
	case api.ItemClause:
		head := like(it.Name, each(it.Args, termForm))
		if it.Body.Kind == api.GTrue {
			return head + ".\n"
		}
		return head + " :- " + goalForm(it.Body) + ".\n"
	}
	return ".\n"
}

// dice throws arguments of all sorts, most of which no parser makes; each list has room beyond its end, with junk in it.
type dice struct{ *rand.Rand }

func (d dice) name() string {
	names := []string{"a", "b9", "X", "_", "int", "not", "is", "", " ", "a b", "p(X).", "%", "\n", "é", "\x00", "\xff", strings.Repeat("n", api.MaxName+1)}
	return names[d.Intn(len(names))]
}

func (d dice) number() int {
	numbers := []int{0, -1, 1, 10, -10, math.MaxInt, math.MinInt, math.MaxInt32, d.Intn(1000) - 500}
	return numbers[d.Intn(len(numbers))]
}

// few is up to most of what one throws.
func few[T any](d dice, most int, one func() T) []T {
	size := d.Intn(most + 1)
	list := make([]T, size+1)
	for i := range list {
		list[i] = one()
	}
	return list[:size]
}

func (d dice) term(depth int) api.Term {
	t := api.Term{Kind: d.Intn(6) - 1, Name: d.name(), Int: d.number()}
	if depth > 0 {
		t.Args = few(d, 3, func() api.Term { return d.term(depth - 1) })
	}
	return t
}

func (d dice) typeExpr(depth int) api.TypeExpr {
	t := api.TypeExpr{Var: d.Intn(2) == 0, Name: d.name()}
	if depth > 0 {
		t.Args = few(d, 3, func() api.TypeExpr { return d.typeExpr(depth - 1) })
	}
	return t
}

func (d dice) goal(depth int) api.Goal {
	term := func() api.Term { return d.term(1) }
	g := api.Goal{Kind: d.Intn(12) - 1, A: term(), B: term(), Name: d.name(), Args: few(d, 2, term)}
	if depth > 0 {
		g.Goals = few(d, 3, func() api.Goal { return d.goal(depth - 1) })
	}
	return g
}

func (d dice) item() api.Item {
	return api.Item{Kind: d.Intn(7) - 1, Name: d.name(), Vars: few(d, 10, d.name), Det: d.Intn(8) - 2, Body: d.goal(3),
		Ctors: few(d, 3, func() api.CtorDecl {
			return api.CtorDecl{Name: d.name(), Args: few(d, 3, func() api.TypeExpr { return d.typeExpr(1) })}
		}),
		Types: few(d, 10, func() api.TypeExpr { return d.typeExpr(2) }),
		In:    few(d, 10, func() bool { return d.Intn(2) == 0 }),
		Args:  few(d, 10, func() api.Term { return d.term(2) })}
}

// P3.1: every function returns the form, for arguments of all sorts.
func TestAllArguments(t *testing.T) {
	d := dice{rand.New(rand.NewSource(1))}
	for range 2000 {
		term, typ, goal := d.term(3), d.typeExpr(3), d.goal(3)
		items := few(d, 5, d.item)
		same(t, print.Term(term), termForm(term))
		same(t, print.Type(typ), typeForm(typ))
		same(t, print.Goal(goal), goalForm(goal))
		for _, it := range items {
			same(t, print.Item(it), itemForm(it))
		}
		same(t, print.Source(items), strings.Join(each(items, itemForm), ""))
		if t.Failed() {
			return
		}
	}
}

// goalsWith are all goals with these parts: of each Kind, and with up to most goals.
func goalsWith(parts []api.Goal, most int) []api.Goal {
	rows := [][]api.Goal{nil}
	for at := 0; at < len(rows); at++ {
		if len(rows[at]) == most {
			continue
		}
		for _, part := range parts {
			rows = append(rows, append(rows[at][:len(rows[at]):len(rows[at])], part))
		}
	}
	var goals []api.Goal
	for kind := range api.GTry + 2 {
		for _, row := range rows {
			goals = append(goals, api.Goal{Kind: kind, A: variable("A"), B: number(-1), Name: "n", Args: []api.Term{variable("Z")}, Goals: row})
		}
	}
	return goals
}

// P3.1: every small goal, of each Kind within each other Kind, two levels deep, in each place.
func TestAllSmallGoals(t *testing.T) {
	for _, g := range goalsWith(goalsWith(goalsWith(nil, 0), 1), 2) {
		if got, want := print.Goal(g), goalForm(g); got != want {
			t.Fatalf("printed %q, not %q", got, want)
		}
	}
	for _, g := range goalsWith(goalsWith(nil, 0), 3) {
		if got, want := print.Goal(g), goalForm(g); got != want {
			t.Fatalf("printed %q, not %q", got, want)
		}
	}
}

// everything is a copy of a value that shares nothing with it, where each list is as long as it has room.
func everything(value reflect.Value) reflect.Value {
	all := reflect.New(value.Type()).Elem()
	switch value.Kind() {
	case reflect.Struct:
		for i := range value.NumField() {
			all.Field(i).Set(everything(value.Field(i)))
		}
	case reflect.Slice:
		for _, x := range value.Slice(0, value.Cap()).Seq2() {
			all = reflect.Append(all, everything(x))
		}
	default:
		all.Set(value)
	}
	return all
}

// P3.1: no call changes its arguments, nor what their lists have room for beyond their ends.
func TestArgumentsStay(t *testing.T) {
	d := dice{rand.New(rand.NewSource(2))}
	for range 200 {
		items := few(d, 4, d.item)
		before := everything(reflect.ValueOf(items)).Interface()
		print.Source(items)
		for _, it := range items {
			print.Item(it)
			print.Goal(it.Body)
			print.Term(made("f", it.Args...))
			print.Type(someType("u", it.Types...))
		}
		if after := everything(reflect.ValueOf(items)).Interface(); !reflect.DeepEqual(before, after) {
			t.Fatalf("changed: %+v, not %+v", after, before)
		}
	}
}

// P3.1: what a call returns hangs on its arguments alone: not on other calls before it or beside it.
func TestCallsAreApart(t *testing.T) {
	var all sync.WaitGroup
	for seed := range 8 {
		all.Go(func() {
			d := dice{rand.New(rand.NewSource(int64(seed)))}
			for range 200 {
				items, other := few(d, 4, d.item), d.item()
				want := strings.Join(each(items, itemForm), "")
				same(t, print.Source(items), want)
				same(t, print.Item(other), itemForm(other))
				same(t, print.Source(items), want)
			}
		})
	}
	all.Wait()
}
