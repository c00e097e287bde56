package data_test

import (
	"fmt"
	"slices"
	"strings"
	"testing"

	"augur/api"
	"augur/data"
	"augur/parse"
)

// declared is the types of the tables: bigs has a field whose type has 201 nodes, and edge one of 200.
var declared = `type list(T) = nil | cons(T, list(T)). type pair(A, B) = pair(A, B) | left(A). type t = a | f(t) | g(int) | a(t, t).
type swap(A, B) = swap(B, A) | again(swap(B, A), A). type nest(T) = flat(T) | deep(nest(list(T))). type ghost(T) = ghost | of(ghost(ghost(T))).
type box(T) = box(T). type same(A) = same(A, A). type row(A) = row(list(A), A, pair(A, int)). type many = many(int, t, int, t, int, t, int, t).
type bigs = first(` + sized(201) + `, int) | second(int, ` + sized(201) + `). type edge = edge(` + sized(200) + `, int).
`

// sized is a type of so many nodes.
func sized(nodes int) string {
	switch nodes {
	case 1:
		return "int"
	case 2:
		return "box(int)"
	}
	half := (nodes - 1) / 2
	return "pair(" + sized(half) + ", " + sized(nodes-1-half) + ")"
}

// value is data whose type has so many nodes.
func value(nodes int) string {
	switch nodes {
	case 1:
		return "7"
	case 2:
		return "box(8)"
	}
	half := (nodes - 1) / 2
	return "pair(" + value(half) + ", " + value(nodes-1-half) + ")"
}

// typesOf is the declared types of a text of several, between blanks and bars.
func typesOf(t *testing.T, text string) []api.TypeExpr {
	t.Helper()
	var list []api.TypeExpr
	for _, part := range parts(text) {
		e, err := parse.Type(part)
		if err != nil {
			t.Fatal(part, err)
		}
		list = append(list, e)
	}
	return list
}

// dataOf is the data of a text of several.
func dataOf(t *testing.T, text string) []api.Data {
	t.Helper()
	var list []api.Data
	for _, part := range parts(text) {
		list = append(list, of(t, part))
	}
	return list
}

func parts(text string) []string {
	if text == "" {
		return nil
	}
	return strings.Split(text, " | ")
}

// row is a row of a table for Check.
type row struct {
	types, list string
	err         error
}

// checked holds what Check answers against a table, also with fields that data's kinds have no use for.
func checked(t *testing.T, x api.Index, rows []row) {
	t.Helper()
	for _, r := range rows {
		what := r.list + " of " + r.types
		list := dataOf(t, r.list)
		held(t, what, data.Check(x, typesOf(t, r.types), list), r.err)
		odd := made("", list...)
		held(t, what+" with strange fields", data.Check(x, typesOf(t, r.types), strange(odd).Args), r.err)
	}
}

// P10.1, P4: data of declared types, and of others.
func TestCheck(t *testing.T) {
	checked(t, read(t, declared), []row{
		{"", "", nil},
		{"int", "5", nil},
		{"int", "-5", nil},
		{"int", "a", api.ErrData},
		{"t", "a", nil},
		{"t", "5", api.ErrData},
		{"t", "f(f(a))", nil},
		{"t", "f(f(5))", api.ErrData},
		{"t", "f(g(5))", nil},
		{"t", "f(g(a))", api.ErrData},
		{"t", "a(a, g(1))", nil},
		{"t", "a(a, 1)", api.ErrData},
		{"t", "a(1, a)", api.ErrData},
		{"t", "nil", api.ErrData},
		{"t", "ghost", api.ErrData},
		{"many", "many(1, a, 2, g(3), 4, f(a), 5, a(a, a))", nil},
		{"many", "many(1, a, 2, g(3), 4, f(a), 5, 6)", api.ErrData},
		{"many", "many(1, a, 2, g(3), 4, 5, 6, a)", api.ErrData},
		{"many", "many(a, a, 2, g(3), 4, a, 6, a)", api.ErrData},
		// Constructors with arguments of types with arguments.
		{"list(int)", "nil", nil},
		{"list(int)", "cons(1, nil)", nil},
		{"list(int)", "cons(1, cons(2, cons(3, nil)))", nil},
		{"list(int)", "cons(1, cons(2, cons(a, nil)))", api.ErrData},
		{"list(int)", "cons(a, nil)", api.ErrData},
		{"list(t)", "cons(a, cons(g(1), nil))", nil},
		{"list(t)", "cons(a, cons(1, nil))", api.ErrData},
		{"list(int)", "cons(1, 2)", api.ErrData},
		{"list(int)", "cons(nil, nil)", api.ErrData},
		{"list(list(int))", "cons(nil, nil)", nil},
		{"list(list(int))", "cons(nil, cons(cons(1, nil), nil))", nil},
		{"list(list(int))", "cons(nil, cons(cons(a, nil), nil))", api.ErrData},
		{"list(list(int))", "cons(cons(nil, nil), nil)", api.ErrData},
		{"list(int)", "1", api.ErrData},
		{"pair(int, t)", "pair(1, a)", nil},
		{"pair(int, t)", "pair(a, 1)", api.ErrData},
		{"pair(int, t)", "left(1)", nil},
		{"pair(int, t)", "left(a)", api.ErrData},
		{"swap(int, t)", "swap(a, 1)", nil},
		{"swap(int, t)", "swap(1, a)", api.ErrData},
		{"swap(int, t)", "again(swap(1, a), 1)", nil},
		{"swap(int, t)", "again(swap(a, 1), 1)", api.ErrData},
		{"swap(int, t)", "again(again(swap(a, 1), a), 1)", nil},
		{"swap(int, t)", "again(again(swap(a, 1), 1), 1)", api.ErrData},
		{"same(int)", "same(1, 2)", nil},
		{"same(int)", "same(1, a)", api.ErrData},
		{"same(list(int))", "same(nil, cons(1, nil))", nil},
		{"same(list(int))", "same(cons(a, nil), cons(1, nil))", api.ErrData},
		{"row(int)", "row(nil, 1, pair(1, 2))", nil},
		{"row(t)", "row(cons(a, nil), a, left(f(a)))", nil},
		{"row(t)", "row(cons(a, nil), a, pair(a, a))", api.ErrData},
		{"row(t)", "row(cons(1, nil), a, pair(a, 1))", api.ErrData},
	})
}

// P10.1: each constructor's variables are its own, also within itself, and types that no source declares.
func TestCheckWithin(t *testing.T) {
	checked(t, read(t, declared), []row{
		{"nest(int)", "flat(1)", nil},
		{"nest(int)", "deep(flat(1))", api.ErrData},
		{"nest(int)", "deep(flat(cons(1, nil)))", nil},
		{"nest(int)", "deep(deep(flat(cons(cons(1, nil), nil))))", nil},
		{"nest(int)", "deep(deep(flat(cons(1, nil))))", api.ErrData},
		{"pair(list(int), list(t))", "pair(cons(1, nil), cons(a, nil))", nil},
		{"pair(box(box(int)), box(t))", "pair(box(box(1)), box(a))", nil},
		{"ghost(int)", "ghost", nil},
		{"ghost(pair(t, int))", "of(of(ghost))", nil},
		// Types that no source declares.
		{"nosuch", "a", api.ErrData},
		{"nosuch(int)", "nil", api.ErrData},
		{"list", "nil", api.ErrData},
		{"list(int, int)", "nil", api.ErrData},
		{"t(int)", "a", api.ErrData},
		{"ghost(nosuch)", "ghost", nil},
		{"list(nosuch)", "nil", nil},
		{"list(nosuch)", "cons(1, nil)", api.ErrData},
	})
}

// P10.1: the variables of the types are unknowns, the same ones through all of them.
func TestCheckVariables(t *testing.T) {
	checked(t, read(t, declared), []row{
		{"T", "5", nil},
		{"T", "cons(1, nil)", nil},
		{"T", "cons(1, cons(nil, nil))", api.ErrData},
		{"T", "pair(1, pair(nil, a))", nil},
		{"_", "a", nil},
		{"list(T)", "nil", nil},
		{"list(T)", "cons(a, nil)", nil},
		{"list(T)", "cons(a, cons(1, nil))", api.ErrData},
		{"list(T)", "a", api.ErrData},
		{"T | T", "1 | 2", nil},
		{"T | T", "1 | a", api.ErrData},
		{"T | T", "nil | cons(1, nil)", nil},
		{"T | T | T", "nil | cons(1, nil) | cons(2, nil)", nil},
		{"T | T | T", "nil | cons(1, nil) | cons(a, nil)", api.ErrData},
		{"T | T | T", "cons(1, nil) | nil | cons(a, nil)", api.ErrData},
		{"T | U", "1 | a", nil},
		{"_ | _", "1 | a", api.ErrData},
		{"list(T) | T", "cons(1, nil) | nil", api.ErrData},
		{"list(T) | T", "cons(1, nil) | 4", nil},
		{"list(T) | T", "nil | nil", nil},
		{"T | list(T)", "nil | nil", nil},
		{"T | list(T)", "nil | cons(cons(1, nil), nil)", nil},
		{"T | list(T)", "nil | cons(1, nil)", api.ErrData},
		{"T | list(T) | T", "nil | cons(cons(1, nil), nil) | cons(a, nil)", api.ErrData},
		{"pair(A, B) | A | B", "pair(1, a) | 2 | f(a)", nil},
		{"pair(A, B) | A | B", "pair(1, a) | a | 2", api.ErrData},
		{"pair(A, B) | B", "left(1) | nil", nil},
		{"pair(A, A)", "pair(1, 2)", nil},
		{"pair(A, A)", "pair(1, a)", api.ErrData},
		{"pair(A, A)", "left(1)", nil},
		{"pair(A, A) | A", "left(1) | a", api.ErrData},
		{"swap(A, B) | A | B", "swap(a, 1) | 1 | a", nil},
		{"swap(A, B) | A | B", "swap(a, 1) | a | 1", api.ErrData},
		{"ghost(T) | T", "ghost | 5", nil},
		{"ghost(T) | T | T", "ghost | 5 | a", api.ErrData},
		{"ghost(T) | ghost(list(T)) | T", "ghost | ghost | 5", nil},
		{"list(A) | list(B) | pair(A, B)", "nil | nil | pair(1, a)", nil},
		{"list(A) | list(B) | pair(A, B)", "cons(a, nil) | nil | pair(1, a)", api.ErrData},
		// A variable of a constructor's type is none of the types'.
		{"T | list(int)", "a | cons(1, nil)", nil},
		{"A | pair(int, t)", "nil | pair(1, a)", nil},
		{"A | B", "pair(1, a) | pair(a, 1)", nil},
	})
}

// P10.1: a variable's arguments don't matter; what has the name of a variable but isn't one is a type.
func TestCheckOddTypes(t *testing.T) {
	x := read(t, declared)
	v := api.TypeExpr{Var: true, Name: "T", Args: []api.TypeExpr{{Name: "nosuch"}}}
	held(t, "arguments", data.Check(x, []api.TypeExpr{v, {Var: true, Name: "T"}}, []api.Data{number(1), number(2)}), nil)
	held(t, "arguments", data.Check(x, []api.TypeExpr{v, {Var: true, Name: "T"}}, []api.Data{number(1), made("a")}), api.ErrData)
	held(t, "no variable", data.Check(x, []api.TypeExpr{{Name: "T"}}, []api.Data{number(1)}), api.ErrData)
	held(t, "int", data.Check(x, []api.TypeExpr{{Var: true, Name: "int"}}, []api.Data{made("a")}), nil)
	held(t, "int", data.Check(x, []api.TypeExpr{{Name: "int", Args: []api.TypeExpr{{Name: "int"}}}}, []api.Data{number(1)}), api.ErrData)
	held(t, "no index", data.Check(api.Index{}, []api.TypeExpr{{Name: "int"}}, []api.Data{number(1)}), nil)
	held(t, "no index", data.Check(api.Index{}, []api.TypeExpr{{Var: true, Name: "T"}}, []api.Data{made("a")}), api.ErrData)
}

// P10.1: constructors that aren't declared, also with this number of arguments, and lists of other lengths.
func TestCheckNames(t *testing.T) {
	checked(t, read(t, declared), []row{
		{"T", "nosuch", api.ErrData},
		{"T", "nosuch(1)", api.ErrData},
		{"T", "nil(1)", api.ErrData},
		{"T", "cons", api.ErrData},
		{"T", "cons(1)", api.ErrData},
		{"T", "cons(1, nil, nil)", api.ErrData},
		{"T", "a(a)", api.ErrData},
		{"T", "list(1)", api.ErrData},
		{"T", "t", api.ErrData},
		{"T", "cons(nosuch, nil)", api.ErrData},
		{"T", "cons(1, nosuch)", api.ErrData},
		{"T", "cons(1, cons(2, cons(3, nosuch)))", api.ErrData},
		{"T | T", "1 | nosuch", api.ErrData},
		{"T | T", "nosuch | 1", api.ErrData},
		{"", "1", api.ErrData},
		{"int", "", api.ErrData},
		{"int", "1 | 2", api.ErrData},
		{"int | int", "1", api.ErrData},
		{"int | int | int", "1 | 2", api.ErrData},
		{"T", "1 | 2", api.ErrData},
		{"int | " + sized(201), "1", api.ErrData},
	})
}

// P10.1: what comes to 200 nodes, and to more.
func TestCheckLarge(t *testing.T) {
	v200, v201, v202, t200, t201 := value(200), value(201), value(202), sized(200), sized(201)
	checked(t, read(t, declared), []row{
		{t200, v200, nil},
		{t200, "1", api.ErrData},
		{t201, v201, api.ErrLarge},
		{t201, "1", api.ErrLarge},
		{t201, "a", api.ErrLarge},
		{"T", v200, nil},
		{"T", v201, api.ErrLarge},
		{"T | T", v200 + " | " + v200, nil},
		{"T | T", v200 + " | 1", api.ErrData},
		{"pair(A, B)", v201, nil},
		{"pair(A, B)", v202, nil},
		{"pair(A, B)", "pair(" + v200 + ", " + v200 + ")", nil},
		{"pair(A, B)", "pair(" + v201 + ", 1)", api.ErrLarge},
		{"pair(A, B)", "pair(1, " + v201 + ")", api.ErrLarge},
		{"box(T)", "box(" + v200 + ")", nil},
		{"box(box(T))", "box(box(" + v200 + "))", api.ErrLarge},
		{"T", "box(" + value(199) + ")", nil},
		{"T", "box(" + v200 + ")", api.ErrLarge},
		{"list(T)", "cons(" + value(199) + ", nil)", nil},
		{"list(T)", "cons(" + v200 + ", nil)", nil},
		{"list(T)", "cons(" + v201 + ", nil)", api.ErrLarge},
		{"list(list(T))", "cons(cons(" + v200 + ", nil), nil)", api.ErrLarge},
		{"ghost(" + sized(199) + ")", "ghost", nil},
		{"ghost(" + t200 + ")", "ghost", api.ErrLarge},
		{"edge", "edge(" + v200 + ", 1)", nil},
		{"edge", "edge(2, 1)", api.ErrData},
		{"bigs", "first(" + v201 + ", 1)", api.ErrLarge},
		{"bigs", "second(1, 1)", api.ErrLarge},
	})
}

// P10.1: which error is the first.
func TestCheckOrder(t *testing.T) {
	v201, t201 := value(201), sized(201)
	wide := slices.Repeat([]string{"A"}, 8)
	checked(t, read(t, declared), []row{
		// One element behind the other.
		{"T | int", v201 + " | a", api.ErrLarge},
		{"int | T", "a | " + v201, api.ErrData},
		{"T | U", v201 + " | nosuch", api.ErrLarge},
		{"U | T", "nosuch | " + v201, api.ErrData},
		{"int | " + t201, "a | 1", api.ErrData},
		{t201 + " | int", "1 | a", api.ErrLarge},
		{t201 + " | " + strings.Join(wide, " | "), "1 | 1 | 2 | 3 | 4 | 5 | 6 | 7 | nosuch", api.ErrLarge},
		// What is within an element ahead of its unification.
		{t201, "nosuch", api.ErrData},
		{t201, "cons(1, 2)", api.ErrData},
		{"int", "first(1, 2)", api.ErrLarge},
		{"int", "pair(first(1, 2), 1)", api.ErrLarge},
		{"T", "f(first(1, 2))", api.ErrLarge},
		{"T", "f(cons(1, second(1, 2)))", api.ErrLarge},
		// A constructor ahead of its arguments.
		{"T", "nosuch(first(1, 2))", api.ErrData},
		{"T", "first(first(1, 2))", api.ErrData},
		{"T", "cons(1, first(1, 2), nil)", api.ErrData},
		{"T", "f(nosuch(first(1, 2)))", api.ErrData},
		// The arguments from the left, each with its unification.
		{"T", "pair(first(1, 2), nosuch)", api.ErrLarge},
		{"T", "pair(nosuch, first(1, 2))", api.ErrData},
		{"T", "pair(cons(1, 2), first(1, 2))", api.ErrData},
		{"T", "pair(first(1, 2), cons(1, 2))", api.ErrLarge},
		{"T", "first(nosuch, 1)", api.ErrData},
		{"T", "first(cons(1, 2), 1)", api.ErrData},
		{"T", "first(1, nosuch)", api.ErrLarge},
		{"T", "second(nosuch, 1)", api.ErrData},
		{"T", "second(a, 1)", api.ErrData},
		{"T", "second(a, first(1, 2))", api.ErrData},
		{"T", "second(1, nosuch)", api.ErrData},
		{"T", "second(1, cons(1, 2))", api.ErrData},
		{"T", "second(1, a)", api.ErrLarge},
		{"T", "a(1, first(1, 2))", api.ErrData},
		{"T", "a(first(1, 2), 1)", api.ErrLarge},
		{"T", "a(a, first(1, 2))", api.ErrLarge},
	})
}

// P10.1: an element that isn't good is told ahead of all else, wherever it is.
func TestCheckGood(t *testing.T) {
	x := read(t, declared+"type s = s(s) | s(s, s, s, s, s, s, s, s) | z. type w = f | f(w, w, w, w, w, w, w, w).")
	deep, large := chain(201, made("z")), full(4097)
	anything := []api.TypeExpr{{Var: true, Name: "A"}, {Var: true, Name: "B"}, {Var: true, Name: "C"}}
	for _, bad := range []api.Data{deep, large} {
		for _, list := range [][]api.Data{
			{bad}, {bad, number(1)}, {number(1), bad}, {made("nosuch"), bad, number(2)}, {bad, made("nosuch"), number(2)},
			{number(1), made("nosuch"), bad}, {number(1), of(t, value(201)), bad}, {number(1), number(2), number(3), bad}, {made("nosuch", bad)},
		} {
			for count := range 4 {
				held(t, form(count)+form(list), data.Check(x, anything[:count], list), api.ErrLarge)
			}
		}
	}
	s := []api.TypeExpr{{Name: "s"}, {Name: "w"}}
	held(t, "good", data.Check(x, s, []api.Data{chain(200, made("z")), tree8(4)}), nil)
	held(t, "good", data.Check(x, s, []api.Data{chain(200, number(1)), tree8(4)}), api.ErrData)
	held(t, "good", data.Check(x, s, []api.Data{chain(200, made("z")), made("f", slices.Repeat([]api.Data{tree8(4)}, 6)...)}), api.ErrData)
	held(t, "too deep", data.Check(x, s[:1], []api.Data{deep}), api.ErrLarge)
}

// tree8 is a full tree of the constructor f.
func tree8(depth int) api.Data {
	if depth == 1 {
		return made("f")
	}
	return made("f", slices.Repeat([]api.Data{tree8(depth - 1)}, 8)...)
}

// P7: names of types, constructors and variables, and types beside, have no effect.
func TestCheckNamesDontMatter(t *testing.T) {
	rename := strings.NewReplacer("list", "l1", "cons", "c2", "nil", "n3", "pair", "p4", "T", "B9", "A", "T", "B", "A")
	const beside = "type other(T) = other(T) | none(list(T)). type list(A) = cons1(A).\n"
	x, other := read(t, declared), read(t, beside+rename.Replace(declared))
	for _, r := range []row{
		{"list(T) | T", "cons(1, nil) | 4", nil},
		{"list(T) | T", "cons(1, nil) | nil", api.ErrData},
		{"pair(A, B) | A | B", "pair(1, a) | 2 | f(a)", nil},
		{"pair(A, B) | A | B", "pair(1, a) | a | 2", api.ErrData},
		{"T", value(200), nil},
		{"T", value(201), api.ErrLarge},
	} {
		checked(t, x, []row{r})
		checked(t, other, []row{{rename.Replace(r.types), rename.Replace(r.list), r.err}})
	}
}

// P10.1: many elements, and elements of many constructors.
func TestCheckMany(t *testing.T) {
	var ctors []string
	for i := range 2000 {
		ctors = append(ctors, fmt.Sprint("c", i))
	}
	x := read(t, "type t = "+strings.Join(ctors, "|")+".type w = w(t,t,t,t,t,t,t,t)|v(w,w,w,w,w,w,w,w)|u(w).")
	var rows []api.Data
	for i := range 250 {
		var args []api.Data
		for j := range 8 {
			args = append(args, made(ctors[i*8+j]))
		}
		rows = append(rows, made("w", args...))
	}
	var list []api.Data
	for len(rows) >= 8 {
		list, rows = append(list, made("v", rows[:8]...)), rows[8:]
	}
	whole := made("v", made("v", list[:8]...), made("v", list[8:16]...), made("v", list[16:24]...), list[24], list[25], list[26], list[27], list[28])
	held(t, "nodes", data.Nodes(whole), 1+3+29+29*8*9)
	var types []api.TypeExpr
	list = nil
	for range 200 {
		types, list = append(types, api.TypeExpr{Name: "w"}), append(list, whole)
	}
	held(t, "many", data.Check(x, types, list), nil)
	list[199] = made("u", made("c0"))
	held(t, "many", data.Check(x, types, list), api.ErrData)
}
