package names_test

import (
	"fmt"
	"math"
	"slices"
	"strconv"
	"strings"
	"testing"

	"augur/api"
	"augur/names"
	"augur/parse"
)

// parsed is a text's items.
func parsed(t *testing.T, text string) []api.Item {
	t.Helper()
	items, err := parse.Source(text)
	if err != nil {
		t.Fatalf("%.300s isn't parsed: %v", text, err)
	}
	return items
}

// resolved is the index of a text that must be well named.
func resolved(t *testing.T, text string) api.Index {
	t.Helper()
	x, err := names.Resolve(parsed(t, text))
	if err != nil {
		t.Fatalf("%.300s: %v", text, err)
	}
	return x
}

// form tells what is in a value, where nil and empty lists are the same.
func form(value any) string { return fmt.Sprintf("%+v", value) }

// same holds what was answered against what should be.
func same(t *testing.T, what string, got, want any) {
	t.Helper()
	if form(got) != form(want) {
		t.Errorf("%.300s: %+v, not %+v", what, got, want)
	}
}

// orders are all orders of a few items, and some of more.
func orders(items []api.Item) [][]api.Item {
	var all [][]api.Item
	if len(items) <= 4 {
		for at, first := range items {
			for _, rest := range orders(slices.Concat(items[:at], items[at+1:])) {
				all = append(all, append([]api.Item{first}, rest...))
			}
		}
		return append(all, items)
	}
	for at := range items {
		turned := slices.Concat(items[at:], items[:at])
		back := slices.Clone(turned)
		slices.Reverse(back)
		all = append(all, turned, back)
	}
	return all
}

// takes asks that a text is well named, in each order of its items.
func takes(t *testing.T, text string) {
	t.Helper()
	for _, items := range orders(parsed(t, text)) {
		x, err := names.Resolve(items)
		if err != nil {
			t.Errorf("%.300s in the order %.300v: %v", text, items, err)
			return
		}
		same(t, text, x.Preds[:7], builtIn())
	}
}

// refuses asks that a text is not well named, in each order of its items.
func refuses(t *testing.T, text string) {
	t.Helper()
	for _, items := range orders(parsed(t, text)) {
		x, err := names.Resolve(items)
		if err != api.ErrNames {
			t.Errorf("%.300s in the order %.300v: %v, not ErrNames", text, items, err)
			return
		}
		same(t, text, x, api.Index{})
	}
}

func key(name string, arity int) api.Key { return api.Key{Name: name, Arity: arity} }

func typ(name string, args ...api.TypeExpr) api.TypeExpr {
	return api.TypeExpr{Name: name, Args: args}
}

func typeVar(name string) api.TypeExpr { return api.TypeExpr{Var: true, Name: name} }

// mode is a mode with these ways.
func mode(det int, in ...bool) api.Mode { return api.Mode{In: in, Det: det} }

// builtIn is what the predicates of every index begin with.
func builtIn() []api.Pred {
	var preds []api.Pred
	number := typ("int")
	for _, name := range []string{"add", "sub", "mul", "div", "mod"} {
		preds = append(preds, api.Pred{Key: key(name, 3), Types: []api.TypeExpr{number, number, number},
			Modes: []api.Mode{mode(api.Det, true, true, false)}})
	}
	for _, name := range []string{"lt", "le"} {
		preds = append(preds, api.Pred{Key: key(name, 2), Types: []api.TypeExpr{number, number},
			Modes: []api.Mode{mode(api.Semidet, true, true)}})
	}
	return preds
}

// sourceOfAll has types with and without variables, predicates with several modes, with clauses and without.
const sourceOfAll = `
	p(X, Y) :- q(X), Y = pair(X, nil).
	mode p(in, in) is semidet.
	type list(T) = nil | cons(T, list(T)).
	pred q(int).
	q(1).
	type both(A, B) = pair(A, B) | none | nil(both(B, int)).
	pred p(T, both(T, list(_))).
	mode q(out) is multi.
	mode p(in, out) is det.
	q(X) :- lt(0, X).
	type empty = void.
	p(_, none).
	mode q(in) is nondet.
	pred p.
	mode p is det.
	q(2) :- q(3) ; p.
`

// P4.1: all that is in an index, and in which order.
func TestIndex(t *testing.T) {
	items := parsed(t, sourceOfAll)
	x := resolved(t, sourceOfAll)
	same(t, "types", x.Types, []api.Item{items[2], items[5], items[10]})
	one, two := []string{"T"}, []string{"A", "B"}
	same(t, "constructors", x.Ctors, []api.Ctor{
		{Key: key("nil", 0), Type: "list", Vars: one},
		{Key: key("cons", 2), Type: "list", Vars: one, Args: []api.TypeExpr{typeVar("T"), typ("list", typeVar("T"))}, Tag: 1},
		{Key: key("pair", 2), Type: "both", Vars: two, Args: []api.TypeExpr{typeVar("A"), typeVar("B")}},
		{Key: key("none", 0), Type: "both", Vars: two, Tag: 1},
		{Key: key("nil", 1), Type: "both", Vars: two, Args: []api.TypeExpr{typ("both", typeVar("B"), typ("int"))}, Tag: 2},
		{Key: key("void", 0), Type: "empty"},
	})
	same(t, "predicates", x.Preds, append(builtIn(),
		api.Pred{Key: key("q", 1), Types: []api.TypeExpr{typ("int")}, Clauses: []int{4, 9, 15},
			Modes: []api.Mode{mode(api.Multi, false), mode(api.Nondet, true)}},
		api.Pred{Key: key("p", 2), Types: []api.TypeExpr{typeVar("T"), typ("both", typeVar("T"), typ("list", typeVar("_")))},
			Modes: []api.Mode{mode(api.Semidet, true, true), mode(api.Det, true, false)}, Clauses: []int{0, 11}},
		api.Pred{Key: key("p", 0), Modes: []api.Mode{mode(api.Det)}},
	))
}

// P4.1: a source without items is well named; its index has what is built in alone.
func TestNothingDeclared(t *testing.T) {
	for _, text := range []string{"", " % so.\n"} {
		same(t, "the empty source", resolved(t, text), api.Index{Preds: builtIn()})
	}
	x, err := names.Resolve([]api.Item{})
	same(t, "no items", x, api.Index{Preds: builtIn()})
	same(t, "no items", err, nil)
}

// P4.1: the examples of the chapter.
func TestExamples(t *testing.T) {
	refuses(t, "pred p. mode p is det. p :- q.")
	takes(t, "type t = a | a(int).")
	refuses(t, "type t = a. type u = a.")
	refuses(t, "pred p. p.")
	refuses(t, "pred lt(int, int). mode lt(in, in) is semidet. lt(X, Y) :- le(X, Y).")
	refuses(t, "pred lt(int, int). mode lt(in, in) is semidet.")
	refuses(t, "pred lt(int, int).")
}

// P4.1, rule 1: names of types, and their variables.
func TestTypeNames(t *testing.T) {
	takes(t, "type t = a. type u = b. type t_ = c. type tT = d.")
	takes(t, "type ints = a. type lists(Int) = b(Int).")
	takes(t, "type a = a. type b = b(a). pred a(a). mode a(in) is det.")
	takes(t, "type add(T) = lt(T, T) | add(T, T, T).")
	takes(t, "type t(A, B, C, D, E, F, G, H) = a.")
	takes(t, "type t(T) = a. type u(T) = b.")
	takes(t, "type t(T, U, Tu, TU, T_) = a.")
	takes(t, "type t(_) = a. type u(_, _1, __) = b.")
	refuses(t, "type t = a. type t = b.")
	refuses(t, "type t = a. type u = b. type t = c.")
	refuses(t, "type t = a. type t(T) = b.")
	refuses(t, "type t(T) = a(T). type t(T, U) = b(T, U).")
	refuses(t, "type t(T, T) = a.")
	refuses(t, "type t(T, U, T) = a.")
	refuses(t, "type t(_, _) = a.")
	refuses(t, "type t(A, B, C, D, E, F, G, G) = a.")
	refuses(t, "type u = b. type t(T, U, V, U) = a(T).")
}

// P4.1, rule 2: keys of constructors.
func TestCtorKeys(t *testing.T) {
	takes(t, "type t = a | b | c.")
	takes(t, "type t = a | a(int) | a(int, int) | a(t, int, t).")
	takes(t, "type t = a. type u = a(t). type v = a(u, t).")
	takes(t, "type t(T) = t | t(T) | t(T, T). pred t. mode t is det.")
	refuses(t, "type t = a | a.")
	refuses(t, "type t = a | b | a.")
	refuses(t, "type t = a(int) | a(t).")
	refuses(t, "type t = a | b(int). type u = c | b(t) | d.")
	refuses(t, "type t = b. type u = c. type v = d | c.")
	refuses(t, "type t(T) = a(T, T). type u = a(int, int).")
}

// typeFrames are texts with a type at Y, in which T is a variable that may stand there if it may anywhere.
var typeFrames = []string{
	"type v(T) = c(Y).",
	"type v(T) = c | d(int, Y, T).",
	"type v(T) = c(int, l(int), Y) | d.",
	"type v(T) = c(l(Y)).",
	"type v(T) = c(m(int, l(m(l(T), Y)))).",
	"type v(S, T) = c(Y, S).",
	"type v(T) = c(v(Y)).",
	"pred p(Y). mode p(in) is det.",
	"pred p(int, T, Y). mode p(in, in, in) is det.",
	"pred p(l(Y)). mode p(in) is det.",
	"pred p(m(m(T, l(Y)), int)). mode p(in) is det.",
	"type v(T) = c(T). pred p(int, int, int, int, int, int, int, v(Y)). mode p(in, in, in, in, in, in, in, in) is det.",
}

// P4.1, rule 3: types are declared, and have as many arguments as their declarations have variables.
func TestTypesInDeclarations(t *testing.T) {
	const others = " type t = a. type l(T) = e(T). type m(A, B) = f."
	for _, frame := range typeFrames {
		for _, good := range []string{"int", "T", "t", "l(int)", "l(T)", "l(t)", "m(T, T)", "l(l(m(t, l(int))))"} {
			takes(t, strings.Replace(frame, "Y", good, 1)+others)
		}
		for _, bad := range []string{"u", "ints", "a", "e", "t(int)", "t(T)", "l", "l(T, T)", "m", "m(T)", "m(T, int, T)", "u(T)",
			"l(u)", "m(T, u)", "m(u, T)", "l(t(T))", "l(l)", "l(l(l(m(t, l))))", "p", "add", "u(u)"} {
			refuses(t, strings.Replace(frame, "Y", bad, 1)+others)
		}
	}
	takes(t, "type t = a(u). type u = b(t).")
	takes(t, "type t(T) = a(t(t(T)), t(int)).")
	takes(t, "type t(A, B) = a(t(B, A), B).")
}

// P4.1, rule 3: variables in the declaration of a type are that type's; those of a predicate are any.
func TestVariablesInDeclarations(t *testing.T) {
	for _, frame := range typeFrames {
		text := strings.Replace(frame, "Y", "U", 1) + " type l(U) = e(U). type m(U, V) = f(U, V)."
		if strings.Contains(frame, "pred") {
			takes(t, text)
			takes(t, strings.ReplaceAll(text, "U", "_"))
		} else {
			refuses(t, text)
			refuses(t, strings.ReplaceAll(text, "U", "_"))
			refuses(t, strings.ReplaceAll(text, "U", "T1"))
		}
	}
	takes(t, "type t(_) = a(_) | b(_, _).")
	takes(t, "type t(A, B) = a(B) | b | c(A, B, A).")
	refuses(t, "type t = a(T).")
	refuses(t, "type t = a(_).")
	refuses(t, "type t(T) = a(t).")
	refuses(t, "type t(T) = a(T) | b(U). type u(U) = c(U).")
	refuses(t, "type t(T) = a | b | c(int, t(t(t(t(U))))).")
}

// P4.1, rule 4: keys of predicates, also those that are built in.
func TestPredKeys(t *testing.T) {
	takes(t, "pred p. mode p is det. pred p(int). mode p(in) is det. pred p(int, int). mode p(in, in) is det.")
	takes(t, "pred q. mode q is det. pred p. mode p is det.")
	refuses(t, "pred p. mode p is det. pred p.")
	refuses(t, "pred p. mode p is det. pred p. mode p is det.")
	refuses(t, "pred p(int). mode p(in) is det. pred p(T). mode p(out) is det.")
	refuses(t, "pred p(int). mode p(in) is det. pred q. mode q is det. pred p(int).")
	for _, b := range builtIn() {
		for arity := range api.MaxArity + 1 {
			list := func(word string) string {
				return strings.Replace("("+strings.Join(slices.Repeat([]string{word}, arity), ", ")+")", "()", "", 1)
			}
			pred := "pred " + b.Key.Name + list("int") + "."
			mode := " mode " + b.Key.Name + list("in") + " is semidet."
			clause := " " + b.Key.Name + list("1") + "."
			if arity == b.Key.Arity {
				refuses(t, pred)
				refuses(t, pred+mode)
				refuses(t, pred+mode+clause)
			} else {
				takes(t, pred+mode)
				takes(t, pred+mode+clause)
			}
		}
	}
}

// P4.1, rule 5: modes are of declared predicates, differ in their ways, and none is missing.
func TestModes(t *testing.T) {
	takes(t, "pred p. mode p is multi.")
	takes(t, "pred p(int, T). mode p(in, in) is det. mode p(in, out) is det. mode p(out, in) is det. mode p(out, out) is det.")
	takes(t, "pred p(T). pred q(T). mode p(in) is det. mode q(in) is det.")
	refuses(t, "pred p.")
	refuses(t, "pred p(int). pred q. mode q is det.")
	refuses(t, "pred p(int). pred p. mode p is det.")
	refuses(t, "pred p(int). pred p. mode p(in) is det.")
	refuses(t, "pred p. mode p is det. mode p is det.")
	refuses(t, "pred p. mode p is det. mode p is semidet.")
	refuses(t, "pred p(int). mode p(in) is det. mode p(out) is det. mode p(in) is nondet.")
	refuses(t, "pred p(int, int). mode p(in, out) is det. mode p(out, out) is multi. mode p(out, in) is det. mode p(out, out) is det.")
	refuses(t, "mode p is det.")
	refuses(t, "mode p(in) is det.")
	refuses(t, "pred p. mode p is det. mode q is det.")
	refuses(t, "pred p. mode p is det. mode p(in) is det.")
	refuses(t, "pred p(int). mode p(in) is det. mode p(out, in) is det.")
	refuses(t, "pred p(int). mode p(in) is det. mode p is det.")
	refuses(t, "type p = a. mode p is det.")
	refuses(t, "type t = a(int). mode a(in) is det.")
	refuses(t, "p. mode p is det.")
	for _, way := range []string{"in", "out"} {
		refuses(t, "mode lt(in, "+way+") is det.")
		refuses(t, "mode le(out, "+way+") is semidet.")
		for _, name := range []string{"add", "sub", "mul", "div", "mod"} {
			refuses(t, "mode "+name+"(in, in, "+way+") is det.")
			refuses(t, "mode "+name+"(in, out, "+way+") is nondet.")
		}
	}
}

// P4.1, rule 6: clauses are of declared predicates.
func TestClauses(t *testing.T) {
	takes(t, "pred p. mode p is det. p. p. p.")
	takes(t, "pred p(int). mode p(in) is det.")
	refuses(t, "p.")
	refuses(t, "p(X, Y).")
	refuses(t, "mode p is det. p.")
	refuses(t, "pred p. mode p is det. p. q.")
	refuses(t, "pred p. mode p is det. p. p(1).")
	refuses(t, "pred p(int). mode p(in) is det. p. p(1).")
	refuses(t, "pred p(int, int). mode p(in, in) is det. p(X) :- true.")
	refuses(t, "type t = a. a.")
	refuses(t, "type t = a. t.")
	for _, clause := range []string{"add(X, Y, Z).", "sub(1, 1, 0).", "mul(_, 0, 0).", "div(0, _, 0).", "mod(X, X, 0).", "lt(1, 2).", "le(X, X).", "le(X, Y) :- lt(X, Y)."} {
		refuses(t, clause)
	}
	refuses(t, "pred p. mode p is det. add(X, Y).")
}

// goalFrames are clauses with a goal at G.
var goalFrames = []string{
	"p :- G.", "p :- p, G.", "p :- G, p.", "p :- p, G, p.", "p :- p ; G.", "p :- G ; p.", "p :- p, (p ; G), p.", "p :- not G.", "p :- not not (p, G).",
	"p :- try G catch E then p.", "p :- try p catch E then G.", "p :- try (p ; G) catch _ then fail.", "p :- try fail catch X then (not (true ; G) ; p).",
	"p. p :- fail. p :- (((p, (p ; (G)))) ; p).", "q(X, 1) :- G.",
}

// headOfClauses declares what the frames have in them.
const headOfClauses = "type t = a | f(int) | g(t, t). type u(T) = h(T) | f(T, u(T)). pred p. mode p is det. pred q(T, int). mode q(in, in) is det. "

// P4.1, rule 7: calls are of predicates, declared or built in, with their keys.
func TestCalls(t *testing.T) {
	for _, frame := range goalFrames {
		for _, good := range []string{"p", "q(X, Y)", "q(_, 1)", "add(X, 1, 2)", "sub(1, X, X)", "mul(1, 2, 3)", "div(_, _, _)", "mod(X, Y, Z)", "lt(1, X)", "le(X, X)"} {
			takes(t, headOfClauses+strings.Replace(frame, "G", good, 1))
		}
		for _, bad := range []string{"r", "r(X)", "p(X)", "q", "q(X)", "q(X, Y, Z)", "add", "add(X, 1)", "sub(1)", "mul(1, 2, 3, 4)", "div(_, _)", "mod", "lt(1)", "lt(X, Y, Z)", "le",
			"a", "f(X)", "t", "u(X)", "gt(X, Y)", "print(X)"} {
			refuses(t, headOfClauses+strings.Replace(frame, "G", bad, 1))
		}
	}
}

// P4.1, rule 7: constructors in the terms of clauses are declared, with their keys.
func TestCtorsInTerms(t *testing.T) {
	frames := []string{"q(H, 1).", "q(X, H).", "q(X, H) :- p.", "q(g(a, g(H, a)), 1).", "q(f(1, h(H)), 1)."}
	for _, frame := range goalFrames {
		for _, goal := range []string{"H = X", "X = H", "a = g(a, H)", "throw H", "throw g(a, h(g(H, a)))", "q(H, 1)", "q(1, H)", "q(g(g(a, H), a), 1)", "lt(H, 1)", "add(X, Y, H)"} {
			frames = append(frames, strings.Replace(frame, "G", goal, 1))
		}
	}
	for _, frame := range frames {
		for _, good := range []string{"X", "_", "0", "-5", "a", "f(1)", "f(X, h(Y))", "g(a, g(_, f(X)))", "h(h(a))"} {
			takes(t, headOfClauses+strings.Replace(frame, "H", good, 1))
		}
		for _, bad := range []string{"b", "b(X)", "a(X)", "f", "f(1, 2, 3)", "g", "g(a)", "h", "h(X, Y)", "g(a, b)", "g(b, a)", "h(h(h(f)))", "p", "q(X, Y)", "t", "u(X)", "add(1, 2, 3)", "lt(1, 2)"} {
			refuses(t, headOfClauses+strings.Replace(frame, "H", bad, 1))
		}
	}
}

// nested is a text with depth times the opening, the core, and depth times the closing.
func nested(depth int, open, core, shut string) string {
	return strings.Repeat(open, depth) + core + strings.Repeat(shut, depth)
}

// P4.1: the deepest terms, types and goals of layer 2 are looked through.
func TestDeepest(t *testing.T) {
	for _, c := range []struct{ frame, good, bad string }{
		{"type l(T) = c(" + nested(api.MaxNest-1, "l(", "Y", ")") + ").", "T", "U"},
		{"type l(T) = c. pred r(" + nested(api.MaxNest-1, "l(", "Y", ")") + "). mode r(in) is det.", "U", "l"},
		{"q(1, " + nested(api.MaxNest-1, "h(", "Y", ")") + ").", "a", "f"},
		{"p :- q(" + nested(api.MaxNest-3, "h(", "Y", ")") + ", 1).", "a", "b"},
		{"p :- X = " + nested(api.MaxNest-2, "h(", "Y", ")") + ".", "a", "g"},
		{"p :- " + nested(api.MaxNest-2, "h(", "Y", ")") + " = X.", "a", "h"},
		{"p :- throw " + nested(api.MaxNest-2, "h(", "Y", ")") + ".", "a", "p"},
		{"p :- " + nested(api.MaxNest-2, "not ", "Y", "") + ".", "p", "r"},
		{"p :- " + nested(api.MaxNest-2, "(p, ", "Y", " ; p)") + ".", "p", "q"},
		{"p :- " + nested(api.MaxNest-3, "try p catch E then ", "Y", "") + ".", "lt(1, 2)", "lt(1)"},
		{"p :- " + nested(api.MaxNest-3, "try ", "Y", " catch E then p") + ".", "p", "a"},
	} {
		takes(t, headOfClauses+strings.Replace(c.frame, "Y", c.good, 1))
		refuses(t, headOfClauses+strings.Replace(c.frame, "Y", c.bad, 1))
	}
}

// P4.1: as many predicates as a source may declare.
func TestMostPreds(t *testing.T) {
	var preds, modes strings.Builder
	for i := range api.MaxItems / 2 {
		preds.WriteString("pred p" + strconv.Itoa(i) + ".")
		modes.WriteString("mode p" + strconv.Itoa(i) + " is det.")
	}
	x := resolved(t, modes.String()+preds.String())
	if len(x.Preds) != 7+api.MaxItems/2 {
		t.Fatal(len(x.Preds))
	}
	for i, p := range x.Preds[7:] {
		same(t, "a predicate of many", p, api.Pred{Key: key("p"+strconv.Itoa(i), 0), Modes: []api.Mode{mode(api.Det)}})
	}
	last := strings.TrimSuffix(preds.String(), "pred p255.")
	refuses(t, modes.String()+last)
	refuses(t, modes.String()+last+"pred p0.")
}

// P4.1: a type with thousands of constructors.
func TestMostCtors(t *testing.T) {
	name := func(i int) string { return "c" + strconv.FormatInt(int64(i), 36) }
	var ctors strings.Builder
	for i := range 3000 {
		ctors.WriteString(name(i) + "|")
	}
	x := resolved(t, "type t(T)="+ctors.String()+"z.")
	if len(x.Ctors) != 3001 {
		t.Fatal(len(x.Ctors))
	}
	for i, c := range x.Ctors[:3000] {
		same(t, "a constructor of many", c, api.Ctor{Key: key(name(i), 0), Type: "t", Vars: []string{"T"}, Tag: i})
	}
	refuses(t, "type t(T)="+ctors.String()+name(0)+".")
	refuses(t, "type t(T)="+ctors.String()+"z. type u="+name(2999)+".")
}

// P4.1: all modes that a predicate may have, and many clauses.
func TestMostModes(t *testing.T) {
	const pred = "pred p(A,B,C,D,E,F,G,H)."
	var modes strings.Builder
	for bits := range 256 {
		var ways []string
		for at := range 8 {
			ways = append(ways, []string{"in", "out"}[bits>>at&1])
		}
		modes.WriteString("mode p(" + strings.Join(ways, ",") + ")is det.")
	}
	p := resolved(t, modes.String()+pred).Preds[7]
	if len(p.Modes) != 256 {
		t.Fatal(len(p.Modes))
	}
	for bits, m := range p.Modes {
		if names.Mode(p, m.In) != bits || m.In[0] != (bits&1 == 0) || m.In[7] != (bits < 128) {
			t.Error(bits, m, names.Mode(p, m.In))
		}
	}
	refuses(t, modes.String()+pred+"mode p(out,out,out,out,out,out,out,out)is det.")

	x := resolved(t, strings.Repeat("p(A,B,C,D,E,F,G,H).", 200)+pred+"mode p(in,in,in,in,in,in,in,in)is det.")
	if len(x.Preds[7].Clauses) != 200 {
		t.Error(len(x.Preds[7].Clauses))
	}
	for i, at := range x.Preds[7].Clauses {
		if at != i {
			t.Error(i, at)
		}
	}
}

// P4.1: Ctor and Pred find what has the key, and nothing else.
func TestCtorAndPred(t *testing.T) {
	x := resolved(t, sourceOfAll)
	for _, c := range x.Ctors {
		got, ok := names.Ctor(x, c.Key)
		same(t, c.Key.Name, got, c)
		same(t, c.Key.Name, ok, true)
	}
	for _, p := range x.Preds {
		got, ok := names.Pred(x, p.Key)
		same(t, p.Key.Name, got, p)
		same(t, p.Key.Name, ok, true)
	}
	noCtor := func(x api.Index, k api.Key) {
		t.Helper()
		got, ok := names.Ctor(x, k)
		same(t, form(k), got, api.Ctor{})
		same(t, form(k), ok, false)
	}
	noPred := func(x api.Index, k api.Key) {
		t.Helper()
		got, ok := names.Pred(x, k)
		same(t, form(k), got, api.Pred{})
		same(t, form(k), ok, false)
	}
	for _, k := range []api.Key{key("cons", 1), key("cons", 0), key("cons", 3), key("nil", 2), key("nil", -1), key("pair", 0), key("void", 1), key("list", 1),
		key("both", 2), key("T", 0), key("p", 2), key("add", 3), key("int", 0), key("", 0), key("Nil", 0), key("ni", 0), key("nill", 0), {}} {
		noCtor(x, k)
	}
	for _, k := range []api.Key{key("p", 1), key("p", 3), key("p", -1), key("q", 0), key("q", 2), key("r", 0), key("nil", 0), key("cons", 2), key("empty", 0),
		key("add", 2), key("lt", 3), key("", 0), key("P", 0), key("p ", 0), {}} {
		noPred(x, k)
	}
	noCtor(api.Index{}, key("nil", 0))
	noPred(api.Index{}, key("p", 0))
	noPred(api.Index{}, key("add", 3))
}

// P4.1: Ctors finds the constructors of one type, in order.
func TestCtors(t *testing.T) {
	x := resolved(t, sourceOfAll)
	same(t, "list", names.Ctors(x, "list"), x.Ctors[:2])
	same(t, "both", names.Ctors(x, "both"), x.Ctors[2:5])
	same(t, "empty", names.Ctors(x, "empty"), x.Ctors[5:])
	for _, name := range []string{"", "int", "nil", "cons", "lists", "List", "lis", "p", "T"} {
		same(t, name, names.Ctors(x, name), []api.Ctor{})
	}
	same(t, "the empty index", names.Ctors(api.Index{}, "list"), []api.Ctor{})
	list := names.Ctors(x, "both")
	for i := range list {
		list[i] = api.Ctor{}
	}
	same(t, "what is left of both", names.Ctors(x, "both"), x.Ctors[2:5])
	same(t, "what is left of both", x, resolved(t, sourceOfAll))
}

// P4.1: Mode finds the place of the mode with just these ways.
func TestMode(t *testing.T) {
	x := resolved(t, "pred p(int, T). mode p(out, in) is det. mode p(in, in) is multi. mode p(out, out) is nondet. pred q. mode q is det. pred r(int). mode r(out) is det.")
	p, q, r := x.Preds[7], x.Preds[8], x.Preds[9]
	for _, c := range []struct {
		pred api.Pred
		in   []bool
		want int
	}{
		{p, []bool{false, true}, 0},
		{p, []bool{true, true}, 1},
		{p, []bool{false, false}, 2},
		{p, []bool{true, false}, -1},
		{p, []bool{false}, -1},
		{p, []bool{true}, -1},
		{p, []bool{true, true, true}, -1},
		{p, []bool{false, true, false}, -1},
		{p, nil, -1},
		{q, nil, 0},
		{q, []bool{}, 0},
		{q, []bool{true}, -1},
		{q, []bool{false}, -1},
		{r, []bool{false}, 0},
		{r, []bool{true}, -1},
		{r, []bool{}, -1},
		{x.Preds[0], []bool{true, true, false}, 0},
		{x.Preds[0], []bool{true, true, true}, -1},
		{x.Preds[0], []bool{true, true}, -1},
		{x.Preds[6], []bool{true, true}, 0},
		{x.Preds[6], []bool{true, false}, -1},
		{api.Pred{}, nil, -1},
		{api.Pred{}, []bool{true}, -1},
	} {
		if got := names.Mode(c.pred, c.in); got != c.want {
			t.Errorf("mode %v of %v: %d, not %d", c.in, c.pred, got, c.want)
		}
	}
}

// P4.1: Builtin knows the seven keys, and no other.
func TestBuiltin(t *testing.T) {
	is := map[api.Key]bool{}
	for _, p := range builtIn() {
		is[p.Key] = true
	}
	for _, name := range []string{"add", "sub", "mul", "div", "mod", "lt", "le", "gt", "ge", "eq", "p", "", "Add", "ad", "addd", "add ", "int", "not"} {
		for _, arity := range []int{0, 1, 2, 3, 4, 5, 8, 9, -1, -2, -3, math.MaxInt, math.MinInt} {
			if k := key(name, arity); names.Builtin(k) != is[k] {
				t.Error(k, names.Builtin(k))
			}
		}
	}
}
