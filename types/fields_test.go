package types_test

import (
	"testing"

	"augur/api"
	"augur/parse"
	"augur/types"
	"augur/unify"
)

func integer() api.Type          { return api.Type{Kind: api.TyInt} }
func rigid(name string) api.Type { return api.Type{Kind: api.TyRigid, Name: name} }
func free(v int) api.Type        { return api.Type{Kind: api.TyFree, Var: v} }
func data(name string, args ...api.Type) api.Type {
	return api.Type{Kind: api.TyData, Name: name, Args: args}
}

// typ is a type as it is declared, whose variables are rigid.
func typ(t *testing.T, text string) api.Type {
	t.Helper()
	x, err := parse.Type(text)
	if err != nil {
		t.Fatal(text, err)
	}
	return unify.Instance(x, nil)
}

// P7.1: a constructor's fields, with the type's arguments in place of its variables.
func TestFields(t *testing.T) {
	_, x := read(t, declared)
	for _, r := range []struct {
		ctor   string
		arity  int
		of     api.Type
		fields string
	}{
		{"nil", 0, typ(t, "list(int)"), ""},
		{"cons", 2, typ(t, "list(int)"), "int list(int)"},
		{"cons", 2, typ(t, "list(T)"), "T list(T)"},
		{"cons", 2, typ(t, "list(U)"), "U list(U)"},
		{"cons", 2, data("list", free(7)), "?7 list(?7)"},
		{"cons", 2, data("list", data("pair", free(1), free(0))), "pair(?1, ?0) list(pair(?1, ?0))"},
		{"cons", 2, typ(t, "list(list(list(A)))"), "list(list(A)) list(list(list(A)))"},
		{"pair", 2, typ(t, "pair(A, B)"), "A B"},
		{"pair", 2, typ(t, "pair(B, A)"), "B A"},
		{"pair", 2, typ(t, "pair(t, int)"), "t int"},
		{"pair", 1, typ(t, "pair(t, int)"), "int"},
		{"a", 0, typ(t, "t"), ""},
		{"f", 1, typ(t, "t"), "t"},
		{"swap", 2, typ(t, "swap(int, t)"), "t int"},
		{"again", 2, typ(t, "swap(int, t)"), "swap(t, int) int"},
		{"again", 2, typ(t, "swap(B, A)"), "swap(A, B) B"},
		{"deep", 1, typ(t, "nest(int)"), "nest(list(int))"},
		{"deep", 1, typ(t, "nest(list(int))"), "nest(list(list(int)))"},
		{"flat", 1, typ(t, "nest(nest(T))"), "nest(T)"},
		{"ghost", 0, typ(t, "ghost(int, U)"), ""},
		{"first", 2, typ(t, "bigs"), "201 int"},
		{"s", 1, typ(t, "s("+wide(250)+")"), "250"},
		{"cons", 2, typ(t, "list("+wide(250)+")"), "250 251"},
		// Whatever the type's arguments are, they are the fields'.
		{"s", 1, data("s", api.Type{}), ""},
		{"cons", 2, data("list", rigid("list")), "list list(list)"},
		{"cons", 2, api.Type{Kind: api.TyData, Name: "list", Var: 5, Args: []api.Type{integer()}}, "int list(int)"},
	} {
		list, ok := types.Fields(x, key(r.ctor, r.arity), r.of)
		what := r.ctor + " of " + unify.Text(r.of)
		held(t, what, ok, true)
		held(t, what, texts(list), r.fields)
	}
	list, _ := types.Fields(x, key("s", 1), data("s", api.Type{}))
	held(t, "s of no kind", list, []api.Type{{}})
}

// P7.1: a type that has no such constructor.
func TestNoFields(t *testing.T) {
	_, x := read(t, declared)
	for _, r := range []struct {
		ctor  string
		arity int
		of    api.Type
	}{
		{"none", 0, data("t")},
		{"a", 1, data("t")},
		{"f", 0, data("t")},
		{"f", -1, data("t")},
		{"", 0, data("t")},
		{"nil", 0, data("t")},
		{"a", 0, data("list", integer())},
		{"cons", 1, data("list", integer())},
		{"cons", 3, data("list", integer())},
		{"cons", 2, data("nest", integer())},
		{"cons", 2, data("nosuch", integer())},
		{"cons", 2, data("cons", integer())},
		{"cons", 2, data("", integer())},
		{"swap", 2, data("pair", integer(), integer())},
		{"pair", 2, data("swap", integer(), integer())},
		// Too few arguments, or too many.
		{"cons", 2, data("list")},
		{"nil", 0, data("list")},
		{"cons", 2, data("list", integer(), integer())},
		{"nil", 0, data("list", integer(), integer())},
		{"pair", 1, data("pair", integer())},
		{"pair", 2, data("pair", integer())},
		{"a", 0, data("t", integer())},
		{"ghost", 0, data("ghost")},
		{"ghost", 0, data("ghost", integer())},
		// Not TyData.
		{"cons", 2, integer()},
		{"a", 0, integer()},
		{"a", 0, rigid("t")},
		{"a", 0, free(0)},
		{"a", 0, api.Type{}},
		{"cons", 2, api.Type{Kind: api.TyInt, Name: "list", Args: []api.Type{integer()}}},
		{"cons", 2, api.Type{Kind: api.TyRigid, Name: "list", Args: []api.Type{integer()}}},
		{"cons", 2, api.Type{Kind: api.TyFree, Name: "list", Args: []api.Type{integer()}}},
		{"cons", 2, api.Type{Kind: 5, Name: "list", Args: []api.Type{integer()}}},
		{"cons", 2, api.Type{Name: "list", Args: []api.Type{integer()}}},
		{"cons", 2, api.Type{Kind: -2, Name: "list", Args: []api.Type{integer()}}},
	} {
		list, ok := types.Fields(x, key(r.ctor, r.arity), r.of)
		held(t, r.ctor+" of "+form(r.of), ok, false)
		if list != nil {
			t.Errorf("%s of %+v: %v", r.ctor, r.of, list)
		}
	}
	list, ok := types.Fields(api.Index{}, key("nil", 0), data("list", integer()))
	held(t, "of no index", ok, false)
	held(t, "of no index", len(list), 0)
}
