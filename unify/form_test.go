package unify_test

import (
	"math"
	"slices"
	"testing"

	"augur/api"
	"augur/parse"
	"augur/unify"
)

// declared is the types of a text.
func declared(t *testing.T, list ...string) []api.TypeExpr {
	t.Helper()
	var made []api.TypeExpr
	for _, text := range list {
		e, err := parse.Type(text)
		if err != nil {
			t.Fatalf("%s isn't parsed: %v", text, err)
		}
		made = append(made, e)
	}
	return made
}

// P6.1: declared types as types.
func TestInstance(t *testing.T) {
	vars := map[string]api.Type{"A": typ("int"), "B": typ("?7"), "C": typ("f(B, ?0)"), "D": typ("D"), "int": typ("t"), "t": typ("T")}
	for _, r := range [][2]string{
		{"int", "int"},
		{"T", "T"},
		{"t", "t"},
		{"t(int)", "t(int)"},
		{"t(T, u(U, T), v)", "t(T, u(U, T), v)"},
		{"A", "int"},
		{"B", "?7"},
		{"C", "f(B, ?0)"},
		{"D", "D"},
		{"A1", "A1"},
		{"t(A, u(C, T, B), C)", "t(int, u(f(B, ?0), T, ?7), f(B, ?0))"},
	} {
		held(t, r[0], unify.Instance(declared(t, r[0])[0], vars), typ(r[1]))
	}
	for _, none := range []map[string]api.Type{nil, {}} {
		held(t, "without variables", unify.Instance(declared(t, "t(A, int, u(B))")[0], none), typ("t(A, int, u(B))"))
	}
}

// P6.1: declared types that no source has, and types of any Kind in place of variables.
func TestOddInstance(t *testing.T) {
	args := []api.TypeExpr{{Name: "int"}, {Var: true, Name: "A"}}
	odd := api.Type{Kind: 77, Name: "a", Var: -9, Args: []api.Type{{}, {Kind: api.TyInt, Name: "b", Args: []api.Type{free(3)}}}}
	vars := map[string]api.Type{"A": odd, "int": rigid("I"), "": {}}
	for _, r := range []struct {
		x    api.TypeExpr
		want api.Type
	}{
		{api.TypeExpr{Name: "int", Args: args}, data("int", integer(), odd)},
		{api.TypeExpr{Name: "int", Args: args[:0]}, integer()},
		{api.TypeExpr{Name: "A"}, data("A")},
		{api.TypeExpr{Var: true, Name: "A"}, odd},
		{api.TypeExpr{Var: true, Name: "A", Args: args}, odd},
		{api.TypeExpr{Var: true, Name: "B", Args: args}, rigid("B")},
		{api.TypeExpr{Var: true, Name: "int"}, rigid("I")},
		{api.TypeExpr{Var: true, Name: ""}, api.Type{}},
		{api.TypeExpr{}, data("")},
	} {
		held(t, form(r.x), unify.Instance(r.x, vars), r.want)
	}
}

// P6.1: the variables of declared types.
func TestNames(t *testing.T) {
	for _, r := range []struct{ list, names []string }{
		{nil, nil},
		{[]string{"int", "t", "t(int, u(v))"}, nil},
		{[]string{"T"}, []string{"T"}},
		{[]string{"T", "int", "T"}, []string{"T"}},
		{[]string{"U", "T", "U", "S"}, []string{"U", "T", "S"}},
		{[]string{"t(B, u(A, v(C), B), D)", "A", "t(E, A)"}, []string{"B", "A", "C", "D", "E"}},
		{[]string{"_", "t(_, A, _)"}, []string{"_", "A"}},
	} {
		held(t, form(r.list), unify.Names(declared(t, r.list...)), r.names)
	}
	a, b, c := api.TypeExpr{Var: true, Name: "A"}, api.TypeExpr{Var: true, Name: "B"}, api.TypeExpr{Var: true, Name: "C"}
	list := []api.TypeExpr{{Var: true, Name: "T", Args: []api.TypeExpr{a, b}}, {Name: "T", Args: []api.TypeExpr{c, b}}, {Var: true}, {}}
	held(t, "arguments of a variable", unify.Names(list), []string{"T", "C", "B", ""})
}

// P6.1: types as text.
func TestText(t *testing.T) {
	args := []api.Type{integer(), rigid("T")}
	for _, r := range []struct {
		a    api.Type
		want string
	}{
		{integer(), "int"},
		{rigid("T"), "T"},
		{free(0), "?0"},
		{free(1234), "?1234"},
		{free(-5), "?-5"},
		{free(math.MinInt), "?-9223372036854775808"},
		{data("t"), "t"},
		{api.Type{Kind: api.TyData, Name: "t", Args: args[:0]}, "t"},
		{data("t", integer()), "t(int)"},
		{data("t", args...), "t(int, T)"},
		{data("t", data("u", free(2), data("v"), data("w", integer())), rigid("U")), "t(u(?2, v, w(int)), U)"},
		{data("", data("")), "()"},
		{rigid(""), ""},
		// Fields of other Kinds, and other Kinds.
		{api.Type{Kind: api.TyInt, Name: "t", Var: 4, Args: args}, "int"},
		{api.Type{Kind: api.TyRigid, Name: "T", Var: 4, Args: args}, "T"},
		{api.Type{Kind: api.TyFree, Name: "t", Var: 4, Args: args}, "?4"},
		{api.Type{Kind: api.TyData, Name: "t", Var: 4, Args: args}, "t(int, T)"},
		{api.Type{}, ""},
		{api.Type{Kind: 0, Name: "t", Var: 4, Args: args}, ""},
		{api.Type{Kind: 5, Name: "t", Var: 4, Args: args}, ""},
		{api.Type{Kind: -1, Name: "t", Var: 4, Args: args}, ""},
		{data("t", api.Type{}, integer(), api.Type{Kind: 5, Name: "u"}), "t(, int, )"},
	} {
		held(t, form(r.a), unify.Text(r.a), r.want)
	}
}

// P6.1: types are equal, or differ in a field.
func TestSame(t *testing.T) {
	base := api.Type{Kind: api.TyData, Name: "t", Var: 1, Args: []api.Type{free(2), data("u", integer())}}
	list := []api.Type{base, {}}
	for _, change := range []func(a *api.Type){
		func(a *api.Type) { a.Kind = api.TyRigid },
		func(a *api.Type) { a.Name = "u" },
		func(a *api.Type) { a.Name = "" },
		func(a *api.Type) { a.Var = 2 },
		func(a *api.Type) { a.Args = nil },
		func(a *api.Type) { a.Args = a.Args[:1] },
		func(a *api.Type) { a.Args = []api.Type{a.Args[1], a.Args[0]} },
		func(a *api.Type) { a.Args = []api.Type{free(3), data("u", integer())} },
		func(a *api.Type) { a.Args = []api.Type{free(2), data("u", rigid("T"))} },
		func(a *api.Type) { a.Args = []api.Type{free(2), data("u", integer(), integer())} },
		func(a *api.Type) { a.Args = []api.Type{free(2), data("u", integer()), {}} },
		func(a *api.Type) { a.Args = []api.Type{free(2), data("u", api.Type{Kind: api.TyInt, Name: "int"})} },
	} {
		other := base
		change(&other)
		list = append(list, other)
	}
	for _, text := range []string{"int", "T", "U", "?0", "?1", "f(?0)", "f(?1)", "f(T)", "f(int, T)", "f(T, int)", "f(f(int), t)", "f(f(int, t))"} {
		list = append(list, typ(text))
	}
	for i, a := range list {
		for j, b := range list {
			if unify.Same(a, b) != (i == j) {
				t.Errorf("%+v and %+v: %t", a, b, i != j)
			}
		}
	}
}

// P6.1, rule 4: nil and empty lists mean the same.
func TestSameEmpty(t *testing.T) {
	for _, args := range [][]api.Type{nil, {}, make([]api.Type, 0, 3)} {
		a, b := data("t"), api.Type{Kind: api.TyData, Name: "t", Args: args}
		if !unify.Same(a, b) || !unify.Same(b, a) || !unify.Same(data("u", a, b), data("u", b, a)) {
			t.Errorf("%#v and %#v differ", a, b)
		}
		u := unify.New()
		held(t, "empty lists", u.Unify(a, b), nil)
		held(t, "empty lists", u.Unify(b, a), nil)
	}
}

// P6.1: unknowns are numbered anew, the others stay.
func TestPlain(t *testing.T) {
	for _, r := range []struct{ list, plain []string }{
		{nil, nil},
		{[]string{"int", "T", "f(t, U)"}, []string{"int", "T", "f(t, U)"}},
		{[]string{"?0"}, []string{"?0"}},
		{[]string{"?7"}, []string{"?0"}},
		{[]string{"f(?7)", "?3"}, []string{"f(?0)", "?1"}},
		{[]string{"?3", "?3", "?1", "?3", "?2", "?1"}, []string{"?0", "?0", "?1", "?0", "?2", "?1"}},
		{[]string{"f(?1, g(?0, ?1), ?2)", "int", "?2", "f(?0)", "?9"}, []string{"f(?0, g(?1, ?0), ?2)", "int", "?2", "f(?1)", "?3"}},
		{[]string{"?1", "?0"}, []string{"?0", "?1"}},
	} {
		var list, plain []api.Type
		for _, text := range r.list {
			list = append(list, typ(text))
		}
		for _, text := range r.plain {
			plain = append(plain, typ(text))
		}
		held(t, form(r.list), unify.Plain(list), plain)
		held(t, form(r.list)+" again", unify.Plain(unify.Plain(list)), plain)
	}
	big := slices.Repeat([]api.Type{free(math.MaxInt), free(math.MinInt), free(-1), free(0)}, 2)
	held(t, "numbers of all sorts", unify.Plain(big), slices.Repeat([]api.Type{free(0), free(1), free(2), free(3)}, 2))
}

// P6.1: an unknown is numbered ahead of its arguments; unknowns are numbered within any Kind; other fields stay.
func TestPlainOfOddTypes(t *testing.T) {
	odd := func(kind, v int, args ...api.Type) api.Type {
		return api.Type{Kind: kind, Name: "n", Var: v, Args: args}
	}
	list := []api.Type{
		odd(api.TyFree, 9, odd(api.TyFree, 8), odd(api.TyFree, 9)),
		odd(api.TyInt, 9, odd(api.TyFree, 7)),
		odd(api.TyRigid, 8, odd(api.TyFree, 6), odd(api.TyFree, 8)),
		odd(0, 7, odd(5, 6, odd(api.TyFree, 5))),
		odd(api.TyData, 5, odd(api.TyFree, 4, odd(api.TyData, 9))),
	}
	held(t, "odd", unify.Plain(list), []api.Type{
		odd(api.TyFree, 0, odd(api.TyFree, 1), odd(api.TyFree, 0)),
		odd(api.TyInt, 9, odd(api.TyFree, 2)),
		odd(api.TyRigid, 8, odd(api.TyFree, 3), odd(api.TyFree, 1)),
		odd(0, 7, odd(5, 6, odd(api.TyFree, 4))),
		odd(api.TyData, 5, odd(api.TyFree, 5, odd(api.TyData, 9))),
	})
}
