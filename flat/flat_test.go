package flat_test

import (
	"fmt"
	"slices"
	"strconv"
	"strings"
	"testing"

	"augur/api"
	"augur/flat"
	"augur/names"
	"augur/parse"
)

// declared stands ahead of the clauses in the tables: what they may use, besides p itself.
const declared = `type t = a | b | f(t) | g(t, t) | h(t, t, t).
pred q. mode q is det. pred q(t). mode q(in) is det. pred q(t, t). mode q(in, in) is det. pred q(t, t, t). mode q(in, in, in) is det.
`

// read is a text's items and their index.
func read(t *testing.T, text string) ([]api.Item, api.Index) {
	t.Helper()
	items, err := parse.Source(text)
	if err != nil {
		t.Fatalf("%.300s isn't parsed: %v", text, err)
	}
	return items, indexed(t, items)
}

// indexed is the index of items that must be well named.
func indexed(t *testing.T, items []api.Item) api.Index {
	t.Helper()
	x, err := names.Resolve(items)
	if err != nil {
		t.Fatalf("%.300v aren't well named: %v", items, err)
	}
	return x
}

// row is so many of one thing, in parentheses.
func row(what string, count int) string {
	if count == 0 {
		return ""
	}
	return "(" + strings.Repeat(what+", ", count-1) + what + ")"
}

// declare is the declaration of a predicate with a mode.
func declare(name string, arity int) string {
	return "pred " + name + row("int", arity) + ". mode " + name + row("in", arity) + " is det.\n"
}

// flatten is the answer for a p with so many arguments and these clauses.
func flatten(t *testing.T, arity int, clauses string) (api.Body, error) {
	t.Helper()
	items, x := read(t, declared+declare("p", arity)+clauses)
	return flat.Flatten(items, x, key("p", arity))
}

func key(name string, arity int) api.Key { return api.Key{Name: name, Arity: arity} }

// form tells what is in a value, where nil and empty lists are the same.
func form(value any) string { return fmt.Sprintf("%+v", value) }

// held holds what was answered against what should be.
func held(t *testing.T, what string, got, want any) {
	t.Helper()
	if form(got) != form(want) {
		t.Errorf("%.300s: %.1000s, not %.1000s", what, form(got), form(want))
	}
}

func yes() api.Flat              { return api.Flat{Kind: api.FTrue} }
func no() api.Flat               { return api.Flat{Kind: api.FFail} }
func same(x, y int) api.Flat     { return api.Flat{Kind: api.FSame, X: x, Y: y} }
func number(x, n int) api.Flat   { return api.Flat{Kind: api.FInt, X: x, Int: n} }
func throws(x int) api.Flat      { return api.Flat{Kind: api.FThrow, X: x} }
func and(l ...api.Flat) api.Flat { return api.Flat{Kind: api.FAnd, Goals: l} }
func or(l ...api.Flat) api.Flat  { return api.Flat{Kind: api.FOr, Goals: l} }
func not(g api.Flat) api.Flat    { return api.Flat{Kind: api.FNot, Goals: []api.Flat{g}} }
func try(x int, g, h api.Flat) api.Flat {
	return api.Flat{Kind: api.FTry, X: x, Goals: []api.Flat{g, h}}
}
func ctor(x int, name string, args ...int) api.Flat {
	return api.Flat{Kind: api.FCtor, X: x, Ctor: key(name, len(args)), Args: args}
}
func call(name string, args ...int) api.Flat {
	return api.Flat{Kind: api.FCall, Pred: key(name, len(args)), Args: args}
}

// flattened is clauses of a p with so many arguments, and what its body must be.
type flattened struct {
	arity   int
	clauses string
	vars    int
	goal    api.Flat
}

// holds asks for the body of each row.
func holds(t *testing.T, rows ...flattened) {
	t.Helper()
	for _, r := range rows {
		b, err := flatten(t, r.arity, r.clauses)
		held(t, r.clauses+" error", err, nil)
		held(t, r.clauses, b, api.Body{Pred: key("p", r.arity), Vars: r.vars, Goal: r.goal})
		if !flat.Same(b.Goal, r.goal) {
			t.Errorf("%s: Same tells %v and %v apart", r.clauses, b.Goal, r.goal)
		}
	}
}

// P5.1: the document's examples.
func TestExamples(t *testing.T) {
	items, x := read(t, `type list(T) = nil | cons(T, list(T)).
pred append(list(T), list(T), list(T)).
mode append(in, in, out) is det.
append(cons(H, T), Y, cons(H, Z)) :- append(T, Y, Z).
append(nil, Y, Y).`)
	k := key("append", 3)
	b, err := flat.Flatten(items, x, k)
	held(t, "append", err, nil)
	first := and(ctor(0, "cons", 3, 4), ctor(2, "cons", 3, 5), call("append", 4, 1, 5))
	held(t, "append", b, api.Body{Pred: k, Vars: 6, Goal: or(first, and(ctor(0, "nil"), same(2, 1)))})
	b, err = flat.Flatten(items[:4], indexed(t, items[:4]), k)
	held(t, "append", err, nil)
	held(t, "append", b, api.Body{Pred: k, Vars: 6, Goal: first})
	holds(t, flattened{2, "p(X, X).", 2, same(1, 0)})
}

// P5.1: no clause, one, several.
func TestClauses(t *testing.T) {
	holds(t, []flattened{
		{0, "", 0, no()},
		{8, "", 8, no()},
		{0, "p.", 0, yes()},
		{2, "p(X, Y).", 2, yes()},
		{0, "p. p.", 0, or(yes(), yes())},
		{0, "p :- q. p. p :- fail.", 0, or(call("q"), yes(), no())},
		{1, "p(X) :- q(Y), q(X). p(Y) :- q(X), q(Y).", 3, or(and(call("q", 1), call("q", 0)), and(call("q", 2), call("q", 0)))},
		{1, "p(1). p(f(X)). p(X) :- q(X) ; q(Y).", 3, or(number(0, 1), ctor(0, "f", 1), or(call("q", 0), call("q", 2)))},
		{1, "p(f(_)). p(f(X)) :- q(X), q(_). p(_) :- q(X).", 5,
			or(ctor(0, "f", 1), and(ctor(0, "f", 2), call("q", 2), call("q", 3)), call("q", 4))},
		{0, "p :- q ; q, q.", 0, or(call("q"), and(call("q"), call("q")))},
		{0, "p :- q ; q. p :- q.", 0, or(or(call("q"), call("q")), call("q"))},
		{1, "p(X) :- p(f(X)). p(f(X)) :- p(X).", 3, or(and(ctor(1, "f", 0), call("p", 1)), and(ctor(0, "f", 2), call("p", 2)))},
	}...)
}

// P5.1: a number is unified with a term: the arguments of a clause.
func TestArguments(t *testing.T) {
	holds(t, []flattened{
		{1, "p(_).", 1, yes()},
		{2, "p(_, _).", 2, yes()},
		{3, "p(X, X, X).", 3, and(same(1, 0), same(2, 0))},
		{4, "p(X, Y, Y, X).", 4, and(same(2, 1), same(3, 0))},
		{1, "p(5).", 1, number(0, 5)},
		{2, "p(_, -7).", 2, number(1, -7)},
		{1, "p(0).", 1, number(0, 0)},
		{1, "p(a).", 1, ctor(0, "a")},
		{2, "p(b, a).", 2, and(ctor(0, "b"), ctor(1, "a"))},
		{1, "p(f(X)).", 2, ctor(0, "f", 1)},
		{1, "p(f(_)).", 2, ctor(0, "f", 1)},
		{1, "p(g(X, X)).", 2, ctor(0, "g", 1, 1)},
		{1, "p(g(_, _)).", 3, ctor(0, "g", 1, 2)},
		{2, "p(f(X), X).", 3, and(ctor(0, "f", 2), same(1, 2))},
		{2, "p(X, f(X)).", 2, ctor(1, "f", 0)},
		{1, "p(f(5)).", 2, and(ctor(0, "f", 1), number(1, 5))},
		{1, "p(g(f(X), X)).", 3, and(ctor(0, "g", 1, 2), ctor(1, "f", 2))},
		{1, "p(g(f(X), f(Y))).", 5, and(ctor(0, "g", 1, 2), ctor(1, "f", 3), ctor(2, "f", 4))},
		{1, "p(h(X, g(f(Y), 1), Z)).", 7, and(ctor(0, "h", 1, 2, 3), ctor(2, "g", 4, 5), ctor(4, "f", 6), number(5, 1))},
		{1, "p(h(f(a), b, f(_))).", 6, and(ctor(0, "h", 1, 2, 3), ctor(1, "f", 4), ctor(4, "a"), ctor(2, "b"), ctor(3, "f", 5))},
		{2, "p(f(f(X)), f(X)).", 4, and(ctor(0, "f", 2), ctor(2, "f", 3), ctor(1, "f", 3))},
		{2, "p(g(Y, Z), g(Z, X)).", 5, and(ctor(0, "g", 2, 3), ctor(1, "g", 3, 4))},
		{1, "p(f(X)) :- q(X, Y).", 3, and(ctor(0, "f", 1), call("q", 1, 2))},
		{2, "p(_, X) :- q(X).", 2, call("q", 1)},
		{2, "p(X, _) :- q(_, X).", 3, call("q", 2, 0)},
		{8, "p(A, B, C, D, E, F, G, f(A)).", 8, ctor(7, "f", 0)},
	}...)
}

// P5.1: what is one goal, and what is nothing.
func TestRows(t *testing.T) {
	holds(t, []flattened{
		{0, "p :- true.", 0, yes()},
		{0, "p :- fail.", 0, no()},
		{0, "p :- true, true.", 0, yes()},
		{0, "p :- true, q.", 0, call("q")},
		{0, "p :- q, fail.", 0, and(call("q"), no())},
		{0, "p :- (q, true), (true, (q, fail)).", 0, and(call("q"), call("q"), no())},
		{1, "p(1) :- true.", 1, number(0, 1)},
		{1, "p(1) :- q.", 1, and(number(0, 1), call("q"))},
		{1, "p(X) :- X = _, q.", 1, call("q")},
	}...)
}

// P5.1: GUnify of two variables, of one, of none.
func TestUnifications(t *testing.T) {
	holds(t, []flattened{
		{0, "p :- X = Y.", 2, same(0, 1)},
		{0, "p :- X = X.", 1, same(0, 0)},
		{2, "p(X, Y) :- Y = X.", 2, same(1, 0)},
		{1, "p(X) :- Y = X, Y = Z.", 3, and(same(1, 0), same(1, 2))},
		{0, "p :- _ = _.", 0, yes()},
		{0, "p :- X = _.", 0, yes()},
		{0, "p :- _ = X.", 0, yes()},
		{0, "p :- _ = X, q(Y, X).", 2, call("q", 0, 1)},
		{0, "p :- X = _, q(Y, X).", 2, call("q", 0, 1)},
		{0, "p :- X = 5.", 1, number(0, 5)},
		{0, "p :- 5 = X.", 1, number(0, 5)},
		{0, "p :- _ = 5, q(X).", 2, and(number(0, 5), call("q", 1))},
		{0, "p :- 5 = _, q(X).", 2, and(number(0, 5), call("q", 1))},
		{0, "p :- 5 = 6.", 1, and(number(0, 5), number(0, 6))},
		{0, "p :- a = b.", 1, and(ctor(0, "a"), ctor(0, "b"))},
		{0, "p :- X = f(Y).", 2, ctor(0, "f", 1)},
		{0, "p :- f(Y) = X.", 2, ctor(0, "f", 1)},
		{0, "p :- g(Y, Z) = X, q(X, Y, Z).", 3, and(ctor(0, "g", 1, 2), call("q", 0, 1, 2))},
		{0, "p :- X = f(X).", 1, ctor(0, "f", 0)},
		{0, "p :- f(X) = X.", 1, ctor(0, "f", 0)},
		{0, "p :- _ = f(_).", 2, ctor(0, "f", 1)},
		{0, "p :- f(_) = _.", 2, ctor(0, "f", 1)},
		{0, "p :- f(X) = g(Y, X).", 3, and(ctor(0, "f", 1), ctor(0, "g", 2, 1))},
		{0, "p :- f(f(X)) = f(Y).", 4, and(ctor(0, "f", 1), ctor(1, "f", 2), ctor(0, "f", 3))},
		{0, "p :- f(Y) = f(f(X)).", 4, and(ctor(0, "f", 1), ctor(0, "f", 2), ctor(2, "f", 3))},
		{0, "p :- X = f(5), q(X).", 2, and(ctor(0, "f", 1), number(1, 5), call("q", 0))},
		{1, "p(X) :- X = g(Y, f(Y)).", 3, and(ctor(0, "g", 1, 2), ctor(2, "f", 1))},
	}...)
}

// P5.1: the arguments of calls are placed one behind the other; that of throw as well.
func TestPlaces(t *testing.T) {
	holds(t, []flattened{
		{0, "p :- q.", 0, call("q")},
		{0, "p :- q(X, X).", 1, call("q", 0, 0)},
		{0, "p :- q(_, _).", 2, call("q", 0, 1)},
		{0, "p :- q(5).", 1, and(number(0, 5), call("q", 0))},
		{0, "p :- q(5, 5).", 2, and(number(0, 5), number(1, 5), call("q", 0, 1))},
		{0, "p :- q(a, X).", 2, and(ctor(0, "a"), call("q", 0, 1))},
		{0, "p :- q(f(X), X, f(Y)).", 4, and(ctor(0, "f", 1), ctor(2, "f", 3), call("q", 0, 1, 2))},
		{0, "p :- q(X, f(Y), Z).", 4, and(ctor(1, "f", 2), call("q", 0, 1, 3))},
		{0, "p :- q(f(g(1, X)), 2).", 5, and(ctor(0, "f", 1), ctor(1, "g", 2, 3), number(2, 1), number(4, 2), call("q", 0, 4))},
		{0, "p :- add(1, X, X).", 2, and(number(0, 1), call("add", 0, 1, 1))},
		{2, "p(X, Y) :- lt(Y, X), p(Y, Z).", 3, and(call("lt", 1, 0), call("p", 1, 2))},
		{0, "p :- throw X.", 1, throws(0)},
		{0, "p :- throw _.", 1, throws(0)},
		{0, "p :- throw 5.", 1, and(number(0, 5), throws(0))},
		{2, "p(_, X) :- throw X.", 2, throws(1)},
		{0, "p :- throw f(X), q(X).", 2, and(ctor(0, "f", 1), throws(0), call("q", 1))},
	}...)
}

// P5.1: goals within goals; their names are the clause's.
func TestGoalsWithin(t *testing.T) {
	holds(t, []flattened{
		{0, "p :- q ; q(X).", 1, or(call("q"), call("q", 0))},
		{0, "p :- (X = 1 ; X = 2), q(X, Y).", 2, and(or(number(0, 1), number(0, 2)), call("q", 0, 1))},
		{0, "p :- true ; fail ; q, q(5).", 1, or(yes(), no(), and(call("q"), number(0, 5), call("q", 0)))},
		{0, "p :- (q ; q) ; q.", 0, or(or(call("q"), call("q")), call("q"))},
		{0, "p :- X = _ ; q(Y), q(X).", 2, or(yes(), and(call("q", 0), call("q", 1)))},
		{0, "p :- q(X) ; q(Y), q(X).", 2, or(call("q", 0), and(call("q", 1), call("q", 0)))},
		{0, "p :- not q(5).", 1, not(and(number(0, 5), call("q", 0)))},
		{0, "p :- not true.", 0, not(yes())},
		{0, "p :- not not fail.", 0, not(not(no()))},
		{0, "p :- not (q ; q, q).", 0, not(or(call("q"), and(call("q"), call("q"))))},
		{0, "p :- not (X = 1), q(X).", 1, and(not(number(0, 1)), call("q", 0))},
		{0, "p :- try q(X) catch E then q(E).", 2, try(0, call("q", 1), call("q", 0))},
		{1, "p(X) :- try q catch X then q(X).", 1, try(0, call("q"), call("q", 0))},
		{0, "p :- try q(_) catch _ then q(_).", 3, try(0, call("q", 1), call("q", 2))},
		{0, "p :- try true catch E then fail.", 1, try(0, yes(), no())},
		{0, "p :- try (q(1), q(X)) catch E then (X = 2, throw E).", 3,
			try(0, and(number(1, 1), call("q", 1), call("q", 2)), and(number(2, 2), throws(0)))},
		{0, "p :- q(E), try (try q catch F then q(F)) catch E then q.", 2, and(call("q", 0), try(0, try(1, call("q"), call("q", 1)), call("q")))},
		{0, "p :- try (q ; q) catch E then (true ; q(E)).", 1, try(0, or(call("q"), call("q")), or(yes(), call("q", 0)))},
	}...)
}

// P5.1: ErrNone, with an empty body.
func TestNone(t *testing.T) {
	items, x := read(t, declared+declare("p", 1)+"p(X).")
	keys := []api.Key{{}, key("p", 0), key("p", 2), key("p", -1), key("P", 1), key("pp", 1), key("", 1), key("q", 4), key("t", 0), key("f", 1), key("a", 0), key("int", 0)}
	for _, name := range []string{"add", "sub", "mul", "div", "mod"} {
		keys = append(keys, key(name, 3), key(name, 2))
	}
	keys = append(keys, key("lt", 2), key("le", 2), key("lt", 3), key("le", 0))
	for _, k := range keys {
		b, err := flat.Flatten(items, x, k)
		held(t, form(k), b, api.Body{})
		held(t, form(k), err, api.ErrNone)
		b, err = flat.Flatten(nil, api.Index{}, k)
		held(t, form(k), b, api.Body{})
		held(t, form(k), err, api.ErrNone)
	}
	_, err := flat.Flatten(items, api.Index{}, key("p", 1))
	held(t, "no index", err, api.ErrNone)
	_, y := read(t, declare("add", 2)+"add(X, X).")
	_, err = flat.Flatten(nil, y, key("add", 3))
	held(t, "built in beside a declared one", err, api.ErrNone)
}

// P5.1: a declared predicate may have the name of one that is built in.
func TestNamedLikeBuiltIn(t *testing.T) {
	items, x := read(t, declare("add", 2)+"add(X, X).")
	b, err := flat.Flatten(items, x, key("add", 2))
	held(t, "add/2", err, nil)
	held(t, "add/2", b, api.Body{Pred: key("add", 2), Vars: 2, Goal: same(1, 0)})
}

// fresh is a row of calls that need so many numbers.
func fresh(count int) string {
	var calls []string
	for ; count > 0; count -= min(3, count) {
		calls = append(calls, "q"+row("_", min(3, count)))
	}
	return strings.Join(calls, ", ")
}

// chain is a term with so many different names in it: it needs two numbers for each, and one.
func chain(count int) string {
	term := "a"
	for i := range count {
		term = "g(V" + strconv.Itoa(i) + ", " + term + ")"
	}
	return term
}

// P5.1: ErrLarge for more than MaxVars variables, and not for MaxVars.
func TestLarge(t *testing.T) {
	for _, r := range []struct {
		arity int
		text  string // of which MaxVars variables are needed
		more  string // one more
		none  string // none more
	}{
		{0, "p :- " + fresh(200), ", q(_)", ", true"},
		{8, "p(A, B, C, D, E, F, G, H) :- " + fresh(192), ", q(X)", ", q(A)"},
		{8, "p(A, _, _, _, _, _, _, _) :- " + fresh(192), ", X = 1", ", X = _"},
		{2, "p(_, _) :- " + fresh(98) + ". p(_, _) :- " + fresh(100), ", throw 1", ", fail"},
		{0, "p :- " + fresh(199) + ", q(X)", ", X = Y", ", X = X"},
		{0, "p :- " + fresh(119) + ", q(" + chain(40) + ")", ", 1 = _", ", _ = V3"},
		{0, "p :- " + fresh(199) + ", not q(E)", ", try q catch F then q", ", try q catch E then q"},
		{0, "p :- " + fresh(199) + ", (q(E) ; q)", ", (q ; q(_))", ", (q ; q(E))"},
		{0, strings.Repeat("p :- q(X), q(Y). ", 99) + "p :- q(X), q(Y)", ". p :- q(X)", ". p :- q"},
	} {
		b, err := flatten(t, r.arity, r.text+".")
		held(t, r.text, err, nil)
		held(t, r.text, b.Vars, api.MaxVars)
		b, err = flatten(t, r.arity, r.text+r.none+".")
		held(t, r.text+r.none, err, nil)
		held(t, r.text+r.none, b.Vars, api.MaxVars)
		b, err = flatten(t, r.arity, r.text+r.more+".")
		held(t, r.text+r.more, err, api.ErrLarge)
		held(t, r.text+r.more, b, api.Body{})
	}
	b, err := flatten(t, 0, "p :- "+fresh(3000)+".")
	held(t, "many", err, api.ErrLarge)
	held(t, "many", b, api.Body{})
}

// P5.1: the variables of one predicate don't count for another.
func TestLargeBeside(t *testing.T) {
	items, x := read(t, declared+declare("r", 0)+declare("p", 1)+"r :- "+fresh(201)+". p(X) :- "+fresh(199)+".")
	_, err := flat.Flatten(items, x, key("r", 0))
	held(t, "r", err, api.ErrLarge)
	b, err := flat.Flatten(items, x, key("p", 1))
	held(t, "p", err, nil)
	held(t, "p", b.Vars, 200)
}

// P5.1: an index may have fewer of the clauses.
func TestFewerClauses(t *testing.T) {
	items, x := read(t, declared+declare("p", 1)+"p(f(X)). p(1). p(X) :- q(X, Y).")
	at := slices.IndexFunc(x.Preds, func(p api.Pred) bool { return p.Key == key("p", 1) })
	all := x.Preds[at].Clauses
	goals := map[string]api.Flat{
		"": no(), "0": ctor(0, "f", 1), "1": number(0, 1), "2": call("q", 0, 1),
		"01": or(ctor(0, "f", 1), number(0, 1)), "02": or(ctor(0, "f", 1), call("q", 0, 2)), "12": or(number(0, 1), call("q", 0, 1)),
		"012": or(ctor(0, "f", 1), number(0, 1), call("q", 0, 2)),
	}
	for which, goal := range goals {
		x.Preds[at].Clauses = nil
		for _, digit := range which {
			x.Preds[at].Clauses = append(x.Preds[at].Clauses, all[digit-'0'])
		}
		b, err := flat.Flatten(items, x, key("p", 1))
		held(t, which, err, nil)
		held(t, which, b.Goal, goal)
	}
}

// P5.1, P7: where the items stand doesn't matter, but for the order of the clauses.
func TestOrderOfItems(t *testing.T) {
	for _, text := range []string{
		"p(f(X)). " + declared + declare("p", 1) + "p(X) :- q(X, Y).",
		"p(f(X)). p(X) :- q(X, Y). " + declare("p", 1) + declared,
		declared + "q(X). p(f(X)). q(Y) :- q(X). " + declare("p", 1) + "q. q(X, X). p(X) :- q(X, Y). q(X).",
	} {
		items, x := read(t, text)
		b, err := flat.Flatten(items, x, key("p", 1))
		held(t, text, err, nil)
		held(t, text, b, api.Body{Pred: key("p", 1), Vars: 3, Goal: or(ctor(0, "f", 1), call("q", 0, 2))})
	}
}
