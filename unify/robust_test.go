package unify_test

import (
	"math"
	"math/rand"
	"reflect"
	"slices"
	"strings"
	"sync"
	"testing"

	"augur/api"
	"augur/unify"
)

// mapped is a copy of a value that shares nothing with it, in which each list is made by remake of its copy.
func mapped(value reflect.Value, remake func(reflect.Value) reflect.Value) reflect.Value {
	made := reflect.New(value.Type()).Elem()
	made.Set(value)
	switch value.Kind() {
	case reflect.Struct:
		for i := range value.NumField() {
			made.Field(i).Set(mapped(value.Field(i), remake))
		}
	case reflect.Slice:
		list := reflect.MakeSlice(value.Type(), 0, value.Len())
		for _, x := range value.Seq2() {
			list = reflect.Append(list, mapped(x, remake))
		}
		made.Set(remake(list))
	}
	return made
}

// roomy is a copy of a value in which each list has room beyond its end, with marks in it.
func roomy[T any](value T) T {
	room := func(list reflect.Value) reflect.Value {
		long := list
		for range 3 {
			mark := reflect.New(list.Type().Elem()).Elem()
			mark.FieldByName("Name").SetString("mark")
			long = reflect.Append(long, mark)
		}
		return long.Slice(0, list.Len())
	}
	return mapped(reflect.ValueOf(value), room).Interface().(T)
}

// lists calls visit with each list in a value, up to what it has room for.
func lists(value reflect.Value, visit func(reflect.Value)) {
	switch value.Kind() {
	case reflect.Struct:
		for i := range value.NumField() {
			lists(value.Field(i), visit)
		}
	case reflect.Slice:
		visit(value.Slice(0, value.Cap()))
		for _, x := range value.Seq2() {
			lists(x, visit)
		}
	}
}

// rooms tells all that a value's lists have room for.
func rooms(value any) string {
	var told strings.Builder
	lists(reflect.ValueOf(value), func(list reflect.Value) { told.WriteString(form(list.Interface())) })
	return told.String()
}

// span is where a list lies.
type span struct{ from, to uintptr }

// spans are where a value's lists lie.
func spans(value any) []span {
	var found []span
	lists(reflect.ValueOf(value), func(list reflect.Value) {
		if list.Len() > 0 {
			from := list.Pointer()
			found = append(found, span{from, from + uintptr(list.Len())*list.Type().Elem().Size()})
		}
	})
	return found
}

// isNew asks that an answer shares no memory with others, and that no two of its lists share any.
func isNew(t *testing.T, answer any, others ...any) {
	t.Helper()
	own := spans(answer)
	list := slices.Clone(own)
	for _, other := range others {
		list = append(list, spans(other)...)
	}
	for i, a := range own {
		for j, b := range list {
			if i != j && a.from < b.to && b.from < a.to {
				t.Fatalf("%+v: lists share memory", answer)
			}
		}
	}
}

// spoil changes all that a type consists of.
func spoil(a api.Type) {
	for i := range a.Args {
		spoil(a.Args[i])
		a.Args[i] = api.Type{Kind: 77, Name: "spoilt", Var: -7}
	}
}

// P6.1, rule 4: what is handed in isn't changed and isn't kept, and answers are new memory.
func TestTypesStay(t *testing.T) {
	type answer struct {
		a      api.Type
		before string
	}
	var answers []answer
	var of *unify.Table
	played(5, 40, func(d dice, u *unify.Table, a, b api.Type) {
		if of != u {
			of, answers = u, nil
		}
		a, b = roomy(a), roomy(b)
		before, beforeB := rooms(a), rooms(b)
		err := u.Unify(a, b)
		resolved, _ := u.Resolve(a)
		again, _ := u.Resolve(a)
		held(t, "handed in", rooms(a), before)
		held(t, "handed in", rooms(b), beforeB)
		isNew(t, resolved, a, b, again)
		answers = append(answers, answer{resolved, form(resolved)})
		want := rows(t, u)
		spoil(a)
		spoil(b)
		spoil(again)
		if !slices.EqualFunc(rows(t, u), want, slices.Equal) {
			t.Fatalf("%v: what a type became shows in the table", err)
		}
		for _, x := range answers {
			held(t, "an answer", form(x.a), x.before)
		}
	})
}

// P6.1, rule 4: one type twice in what is handed in, and in what is resolved.
func TestTypesThatShare(t *testing.T) {
	u := table(2)
	part := typ("f(?0, int)")
	a := api.Type{Kind: api.TyData, Name: "g", Args: []api.Type{part, part, free(1)}}
	held(t, "shared", u.Unify(free(1), part), nil)
	for range 2 {
		got, err := u.Resolve(a)
		held(t, "shared", err, nil)
		held(t, "shared", got, typ("g(f(?0, int), f(?0, int), f(?0, int))"))
		isNew(t, got, a)
		isNew(t, unify.Plain([]api.Type{a, part, a}), a)
		spoil(got)
	}
	vars := map[string]api.Type{"A": part}
	x := api.TypeExpr{Name: "t", Args: []api.TypeExpr{{Var: true, Name: "A"}, {Name: "u", Args: []api.TypeExpr{{Var: true, Name: "A"}}}}}
	isNew(t, unify.Instance(x, vars), x, part)
}

// odd throws types that no layer makes.
type odd struct{ *rand.Rand }

func (o odd) name() string { return []string{"", "int", "T", "t", "?0", "_", "%", "\xff"}[o.Intn(8)] }

func (o odd) number() int {
	return []int{0, 1, 2, 3, 4, 5, -1, math.MaxInt, math.MinInt}[o.Intn(9)]
}

func (o odd) typ() api.Type {
	return api.Type{Kind: o.number(), Name: o.name(), Var: o.number(), Args: many(o.Intn(5)/2, o.typ)}
}

func (o odd) declared() api.TypeExpr {
	return api.TypeExpr{Var: o.Intn(3) == 0, Name: o.name(), Args: many(o.Intn(5)/2, o.declared)}
}

// P6.1: every call ends without a panic, whatever it is given, changes none of it, and answers new memory.
func TestOddTypes(t *testing.T) {
	o, counts := odd{rand.New(rand.NewSource(6))}, map[error]int{}
	for range 5000 {
		a, b := roomy(o.typ()), roomy(o.typ())
		list := roomy(many(o.Intn(4), o.declared))
		before := rooms([]api.Type{a, b}) + rooms(list)
		u := table(o.Intn(4))
		resolved, err := u.Resolve(a)
		if err != nil {
			held(t, form(a), resolved, api.Type{})
		}
		isNew(t, resolved, a, b)
		counts[u.Unify(a, b)]++
		plain := unify.Plain([]api.Type{a, b, a})
		isNew(t, plain, a, b)
		if !unify.Same(a, a) || unify.Same(a, b) != unify.Same(b, a) || unify.Same(a, b) != (form(a) == form(b)) || !unify.Same(plain[0], plain[2]) {
			t.Fatalf("%+v and %+v: %t", a, b, unify.Same(a, b))
		}
		for _, x := range list {
			made := unify.Instance(x, map[string]api.Type{"T": a, "": b})
			isNew(t, made, a, b, list)
			unify.Text(made)
		}
		unify.Names(list)
		unify.Text(a)
		held(t, "odd", rooms([]api.Type{a, b})+rooms(list), before)
	}
	if counts[nil] < 50 || counts[api.ErrTypes] < 50 || counts[api.ErrState] < 2500 {
		t.Error(counts)
	}
}

// P6.1, rule 7: tables are apart: what one answers doesn't hang on others before it or beside it.
func TestTablesAreApart(t *testing.T) {
	var beside sync.WaitGroup
	told := make([]strings.Builder, 8)
	for at := range told {
		beside.Go(func() {
			played(int64(7+at%2), 100, func(_ dice, u *unify.Table, a, b api.Type) {
				err := u.Unify(a, b)
				told[at].WriteString(form(err) + form(unify.Plain([]api.Type{a, b})))
				for v := range u.Len() {
					x, err := u.Resolve(free(v))
					told[at].WriteString(unify.Text(x) + form(err))
				}
			})
		})
	}
	beside.Wait()
	for at := range told {
		if told[at].String() != told[at%2].String() {
			t.Error("a table hangs on another one")
		}
	}
}

// P6.1: a call ends also where 2^16 parts are nested in one another, and takes time that grows with them.
func TestDepth(t *testing.T) {
	const depth = 1 << 16
	deep, strange := tower(depth, free(0)), tower(depth, free(1))
	x := api.TypeExpr{Var: true, Name: "T"}
	for range depth - 1 {
		x = api.TypeExpr{Name: "s", Args: []api.TypeExpr{x}}
	}
	u := table(1)
	held(t, "deep", u.Unify(deep, deep), api.ErrLarge)
	held(t, "deep", u.Unify(free(0), deep), api.ErrLarge)
	held(t, "strange", u.Unify(deep, strange), api.ErrState)
	_, err := u.Resolve(deep)
	held(t, "deep", err, api.ErrLarge)
	if !unify.Same(deep, unify.Plain([]api.Type{strange})[0]) || unify.Same(deep, strange) {
		t.Error("deep types")
	}
	if !unify.Same(deep, unify.Instance(x, map[string]api.Type{"T": free(0)})) {
		t.Error("deep instance")
	}
	held(t, "deep names", unify.Names([]api.TypeExpr{x}), []string{"T"})
	if unify.Text(deep) != strings.Repeat("s(", depth-1)+"?0"+strings.Repeat(")", depth-1) {
		t.Error("deep text")
	}
}

// P6.1: calls with wide types take time that grows with them.
func TestWidth(t *testing.T) {
	const width = 1 << 18
	u := table(1)
	wide, plain := data("w"), data("w")
	var list []api.TypeExpr
	var want []string
	for v := range width {
		wide.Args, plain.Args = append(wide.Args, free(3*v+1)), append(plain.Args, free(v))
		name := unify.Text(free(v))
		list, want = append(list, api.TypeExpr{Var: true, Name: name}), append(want, name)
	}
	held(t, "wide", u.Unify(wide, wide), api.ErrState)
	held(t, "wide", u.Unify(data("w", make([]api.Type, width)...), free(0)), api.ErrState)
	held(t, "wide", u.Unify(free(0), data("w", slices.Repeat([]api.Type{integer()}, width)...)), api.ErrLarge)
	if !unify.Same(unify.Plain([]api.Type{wide})[0], plain) {
		t.Error("wide plain")
	}
	if !slices.Equal(unify.Names(slices.Concat(list, list)), want) {
		t.Error("wide names")
	}
	if unify.Text(plain) != "w("+strings.Join(want, ", ")+")" {
		t.Error("wide text")
	}
}

// lastOf asks what the first, a middle and the last unknown come to.
func lastOf(t *testing.T, u *unify.Table, want string) {
	t.Helper()
	for _, v := range []int{0, u.Len() / 2, u.Len() - 1} {
		a, err := u.Resolve(free(v))
		held(t, "resolved", err, nil)
		held(t, "resolved", unify.Text(a), want)
	}
}

// P6.1: many unknowns that lead to one another take time that grows with their number.
func TestManyUnknowns(t *testing.T) {
	const count = 1 << 17
	forward, backward, star := table(count), table(count), table(count)
	for v := range count - 1 {
		held(t, "forward", forward.Unify(free(v), free(v+1)), nil)
		held(t, "backward", backward.Unify(free(count-2-v), free(count-1-v)), nil)
		held(t, "star", star.Unify(free(v), free(count-1)), nil)
	}
	for _, u := range []*unify.Table{forward, backward, star} {
		lastOf(t, u, "?131071")
		for v := range count {
			if err := u.Unify(free(v), free(0)); err != nil {
				t.Fatal(err)
			}
		}
		held(t, "200", u.Unify(free(count/2), typ("f(100, g(h))")), nil)
		held(t, "other", u.Unify(free(0), integer()), api.ErrTypes)
		lastOf(t, u, unify.Text(typ("f(100, g(h))")))
	}
}

// P6.1: many unknowns, each of which comes to more than the one before it, up to MaxNodes.
func TestManyGrow(t *testing.T) {
	const unknowns = 1 << 14
	u := table(unknowns)
	for v := range unknowns - 1 {
		if v%199 == 0 {
			continue
		}
		held(t, "grow", u.Unify(free(v), data("s", free(v-1))), nil)
	}
	for v := 0; v+199 < unknowns; v += 199 {
		held(t, "one too many", u.Unify(free(v), typ("s(s(int))")), api.ErrLarge)
		held(t, "full", u.Unify(free(v), typ("s(int)")), nil)
		got, err := u.Resolve(free(v + 198))
		held(t, "full", err, nil)
		held(t, "full", count(got), 200)
	}
}
