package types_test

import (
	"fmt"
	"slices"
	"strconv"
	"strings"
	"testing"

	"augur/api"
	"augur/flat"
	"augur/names"
	"augur/parse"
	"augur/types"
	"augur/unify"
)

// declared stands ahead of the predicate in the tables: what it may use, besides itself.
var declared = `type list(T) = nil | cons(T, list(T)).
type pair(A, B) = pair(A, B) | pair(B).
type t = a | b | f(t).
type s(A) = s(A).
type swap(A, B) = swap(B, A) | again(swap(B, A), A).
type nest(T) = flat(T) | deep(nest(list(T))).
type ghost(A, B) = ghost.
type bigs = first(` + wide(201) + `, int) | last(int, ` + wide(201) + `) | full(` + wide(200) + `).
pred q. mode q is det.
pred id(T, T). mode id(in, out) is det.
pred id(T, T, T). mode id(in, in, out) is det.
pred member(T, list(T)). mode member(out, in) is nondet.
pred zip(list(A), list(B), list(pair(A, B))). mode zip(in, in, out) is semidet.
pred turn(B, A, pair(A, B)). mode turn(in, in, out) is det.
pred t(t). mode t(in) is det.
pred s(T, s(T)). mode s(in, out) is det.
pred big(` + wide(201) + `). mode big(in) is det.
pred first(` + wide(201) + `, int). mode first(in, in) is det.
pred last(int, ` + wide(201) + `). mode last(in, in) is det.
`

// wide is a type of so many nodes, without variables.
func wide(nodes int) string {
	switch nodes {
	case 1:
		return "int"
	case 2:
		return "s(int)"
	}
	return "pair(" + wide((nodes-1)/2) + ", " + wide(nodes-1-(nodes-1)/2) + ")"
}

// read is a text's items and their index.
func read(t *testing.T, text string) ([]api.Item, api.Index) {
	t.Helper()
	items, err := parse.Source(text)
	if err != nil {
		t.Fatalf("%.300s isn't parsed: %v", text, err)
	}
	x, err := names.Resolve(items)
	if err != nil {
		t.Fatalf("%.300s isn't well named: %v", text, err)
	}
	return items, x
}

func key(name string, arity int) api.Key { return api.Key{Name: name, Arity: arity} }

// form tells what is in a value, where nil and empty lists are the same.
func form(value any) string { return fmt.Sprintf("%+v", value) }

// held holds what was answered against what should be.
func held(t *testing.T, what string, got, want any) {
	t.Helper()
	if form(got) != form(want) {
		t.Errorf("%.600s: %.1000s, not %.1000s", what, form(got), form(want))
	}
}

// texts are types as texts; one of many nodes by their number.
func texts(list []api.Type) string {
	var all []string
	for _, a := range list {
		text := unify.Text(a)
		if nodes := count(a); nodes >= 20 {
			text = fmt.Sprint(nodes)
		}
		all = append(all, text)
	}
	return strings.Join(all, " ")
}

// count is how many nodes a type has.
func count(a api.Type) int {
	sum := 1
	for _, arg := range a.Args {
		sum += count(arg)
	}
	return sum
}

// p declares a predicate p with arguments of these types, divided by ";"; a number is a type of so many nodes.
func p(args string) string {
	if args == "" {
		return "pred p. mode p is det.\n"
	}
	list := strings.Split(args, "; ")
	for i, arg := range list {
		if nodes, err := strconv.Atoi(arg); err == nil {
			list[i] = wide(nodes)
		}
	}
	ways := strings.TrimSuffix(strings.Repeat("in, ", len(list)), ", ")
	return "pred p(" + strings.Join(list, ", ") + "). mode p(" + ways + ") is det.\n"
}

// inferred is clauses of a p with arguments of these types, and what the types of its variables must be, or the error.
type inferred struct {
	args, clauses string
	types         string
	err           error
}

// bodyOf is the body of the p with arguments of these types and these clauses.
func bodyOf(t *testing.T, args, clauses string) (api.Index, api.Body) {
	t.Helper()
	items, x := read(t, declared+p(args)+clauses)
	arity := 0
	if args != "" {
		arity = 1 + strings.Count(args, "; ")
	}
	b, err := flat.Flatten(items, x, key("p", arity))
	if err != nil {
		t.Fatalf("%s: %v", clauses, err)
	}
	return x, b
}

// holds asks for the types of each row.
func holds(t *testing.T, rows ...inferred) {
	t.Helper()
	for _, r := range rows {
		x, b := bodyOf(t, r.args, r.clauses)
		list, err := types.Infer(x, b)
		what := "(" + r.args + ") " + r.clauses
		held(t, what+" error", err, r.err)
		held(t, what, texts(list), r.types)
		if err == nil {
			held(t, what+" count", len(list), b.Vars)
		}
	}
}

const appendSource = `type list(T) = nil | cons(T, list(T)).
pred append(list(T), list(T), list(T)).
mode append(in, in, out) is det.
mode append(out, out, in) is multi.
append(nil, Y, Y).
append(cons(H, T), Y, cons(H, Z)) :- append(T, Y, Z).
`

// P7.1: the document's examples.
func TestExamples(t *testing.T) {
	items, x := read(t, appendSource)
	b, err := flat.Flatten(items, x, key("append", 3))
	held(t, "append", err, nil)
	list, err := types.Infer(x, b)
	held(t, "append", err, nil)
	held(t, "append", texts(list), "list(T) list(T) list(T) T list(T) list(T)")
	held(t, "append", list[3], api.Type{Kind: api.TyRigid, Name: "T"})
	held(t, "append", types.Check(items, x), nil)
	holds(t,
		inferred{"list(T)", "p(X) :- X = 1, X = nil.", "", api.ErrTypes},
		inferred{"list(T)", "p(X) :- X = cons(X, _).", "", api.ErrTypes},
		inferred{"int", "p(X) :- X = 1, X = nil.", "", api.ErrTypes},
		inferred{"int", "p(X) :- X = cons(X, _).", "", api.ErrTypes},
	)
}

// P7.1: the arguments have the declared types, whose variables are rigid.
func TestArguments(t *testing.T) {
	holds(t,
		inferred{"", "", "", nil},
		inferred{"int", "", "int", nil},
		inferred{"T; int; list(T); T; U; pair(U, list(T)); t", "", "T int list(T) T U pair(U, list(T)) t", nil},
		inferred{"T; T", "p(X, X).", "T T", nil},
		inferred{"T; U", "p(X, X).", "", api.ErrTypes},
		inferred{"T; U", "p(X, Y) :- id(X, Y).", "", api.ErrTypes},
		inferred{"T; int", "p(X, X).", "", api.ErrTypes},
		inferred{"T; list(T)", "p(X, X).", "", api.ErrTypes},
		inferred{"list(T); list(U)", "p(X, X).", "", api.ErrTypes},
		inferred{"T", "p(1).", "", api.ErrTypes},
		inferred{"T", "p(a).", "", api.ErrTypes},
		inferred{"int", "p(1). p(X) :- X = -2.", "int", nil},
		inferred{"t", "p(1).", "", api.ErrTypes},
		inferred{"int", "p(a).", "", api.ErrTypes},
		inferred{"t", "p(a). p(f(f(X))) :- X = b.", "t t t", nil},
		inferred{"list(t)", "p(cons(a, nil)).", "list(t) t list(t)", nil},
		inferred{"list(int)", "p(cons(a, nil)).", "", api.ErrTypes},
		inferred{"list(A)", "p(cons(H, T)) :- p(T).", "list(A) A list(A)", nil},
		inferred{"_; list(_)", "p(X, cons(X, nil)).", "_ list(_) list(_)", nil},
		inferred{"A; B; pair(B, A)", "p(X, Y, pair(Y, X)).", "A B pair(B, A)", nil},
		inferred{"A; B; pair(B, A)", "p(X, Y, pair(X, Y)).", "", api.ErrTypes},
		inferred{"A; A; A; A; A; A; A; B", "p(_, _, _, _, _, _, X, X).", "", api.ErrTypes},
	)
}

// P7.1: the unknowns that remain are numbered anew, in the order in which they first occur.
func TestUnknowns(t *testing.T) {
	holds(t,
		inferred{"", "p :- X = Y, Z = Z.", "?0 ?0 ?1", nil},
		inferred{"", "p :- X = Y, Z = U, U = Y.", "?0 ?0 ?0 ?0", nil},
		inferred{"", "p :- id(X, Y), id(_, Z).", "?0 ?0 ?1 ?1", nil},
		inferred{"", "p :- X = nil, Y = nil.", "list(?0) list(?1)", nil},
		inferred{"", "p :- X = pair(Y, Z), U = pair(Z, Y).", "pair(?0, ?1) ?0 ?1 pair(?1, ?0)", nil},
		inferred{"", "p :- U = Z, X = pair(Y, Z).", "?0 ?0 pair(?1, ?0) ?1", nil},
		inferred{"", "p :- X = cons(cons(Y, Z), U).", "list(list(?0)) list(?0) list(list(?0)) ?0 list(?0)", nil},
		inferred{"", "p :- X = ghost, Y = ghost, X = Z.", "ghost(?0, ?1) ghost(?2, ?3) ghost(?0, ?1)", nil},
		inferred{"", "p :- X = ghost, Y = ghost, X = Y.", "ghost(?0, ?1) ghost(?0, ?1)", nil},
		inferred{"T", "p(X) :- Y = cons(X, nil), Z = nil.", "T list(T) list(T) list(?0)", nil},
		inferred{"int", "p(X) :- zip(A, B, C).", "int list(?0) list(?1) list(pair(?0, ?1))", nil},
		inferred{"", "p :- turn(X, Y, Z), id(Z, U).", "?0 ?1 pair(?1, ?0) pair(?1, ?0)", nil},
	)
}

// P7.1: FSame, FInt, FThrow, and the goals that say nothing.
func TestPlainGoals(t *testing.T) {
	holds(t,
		inferred{"", "p :- true, fail.", "", nil},
		inferred{"", "p. p :- fail. p.", "", nil},
		inferred{"", "p :- X = 5, Y = X.", "int int", nil},
		inferred{"", "p :- Y = X, X = 5.", "int int", nil},
		inferred{"", "p :- X = 5, X = -6.", "int", nil},
		inferred{"", "p :- 5 = a.", "", api.ErrTypes},
		inferred{"", "p :- X = 5, X = Y, Y = a.", "", api.ErrTypes},
		inferred{"", "p :- X = nil, Y = X, Y = cons(1, _).", "list(int) list(int) int list(int)", nil},
		inferred{"t; int", "p(X, Y) :- X = Y.", "", api.ErrTypes},
		inferred{"", "p :- throw X.", "int", nil},
		inferred{"", "p :- throw 7.", "int", nil},
		inferred{"", "p :- X = Y, throw X.", "int int", nil},
		inferred{"int", "p(X) :- throw X.", "int", nil},
		inferred{"T", "p(X) :- throw X.", "", api.ErrTypes},
		inferred{"list(int)", "p(X) :- throw X.", "", api.ErrTypes},
		inferred{"", "p :- throw a.", "", api.ErrTypes},
		inferred{"", "p :- throw _.", "int", nil},
	)
}

// P7.1: FCtor: the constructor's type and its arguments' types, with an unknown for each variable.
func TestConstructors(t *testing.T) {
	holds(t,
		inferred{"", "p :- X = a.", "t", nil},
		inferred{"", "p :- X = f(Y).", "t t", nil},
		inferred{"", "p :- X = cons(1, Y).", "list(int) int list(int)", nil},
		inferred{"", "p :- X = cons(a, cons(1, nil)).", "", api.ErrTypes},
		inferred{"", "p :- X = cons(Y, Z), Z = cons(Y, X).", "list(?0) ?0 list(?0)", nil},
		inferred{"", "p :- X = pair(1, a), Y = pair(a).", "pair(int, t) int t pair(?0, t) t", nil},
		inferred{"", "p :- X = pair(1, Y), X = pair(a).", "pair(int, t) int t t", nil},
		inferred{"", "p :- X = pair(1, Y), X = pair(a), Y = 2.", "", api.ErrTypes},
		inferred{"", "p :- X = swap(1, a).", "swap(t, int) int t", nil},
		inferred{"swap(int, t)", "p(X) :- X = swap(Y, Z).", "swap(int, t) t int", nil},
		inferred{"swap(A, B)", "p(X) :- X = again(Y, Z), Y = swap(U, V).", "swap(A, B) swap(B, A) A A B", nil},
		inferred{"nest(T)", "p(X) :- X = deep(deep(flat(Y))).", "nest(T) nest(list(T)) nest(list(list(T))) list(list(T))", nil},
		inferred{"nest(T)", "p(flat(_)). p(deep(X)) :- p(X).", "nest(T) T nest(list(T))", nil},
		inferred{"", "p :- X = deep(X).", "", api.ErrTypes},
		inferred{"", "p :- X = deep(flat(1)).", "", api.ErrTypes},
		inferred{"", "p :- X = deep(flat(nil)).", "nest(?0) nest(list(?0)) list(?0)", nil},
		inferred{"ghost(int, T)", "p(ghost).", "ghost(int, T)", nil},
		inferred{"ghost(int, T); ghost(T, int)", "p(X, X).", "", api.ErrTypes},
		// A type isn't within itself.
		inferred{"", "p :- X = cons(X, _).", "", api.ErrTypes},
		inferred{"", "p :- X = cons(_, X).", "list(?0) ?0", nil},
		inferred{"", "p :- X = s(X).", "", api.ErrTypes},
		inferred{"", "p :- X = s(Y), Y = Z, Z = X.", "", api.ErrTypes},
		inferred{"", "p :- X = s(Y), Y = cons(Z, _), Z = pair(1, X).", "", api.ErrTypes},
		inferred{"", "p :- X = f(X).", "t", nil},
		// Of another type.
		inferred{"t", "p(nil).", "", api.ErrTypes},
		inferred{"list(int)", "p(a).", "", api.ErrTypes},
		inferred{"pair(int, int)", "p(swap(1, 2)).", "", api.ErrTypes},
	)
}

// P7.1: FCall: the declared types, with an unknown for each variable: each call's are its own.
func TestCalls(t *testing.T) {
	holds(t,
		inferred{"", "p :- q, p.", "", nil},
		inferred{"", "p :- t(X).", "t", nil},
		inferred{"", "p :- t(1).", "", api.ErrTypes},
		inferred{"T", "p(X) :- t(X).", "", api.ErrTypes},
		inferred{"int; t", "p(X, Y) :- id(X, X), id(Y, Y), id(nil, _).", "int t list(?0) list(?0)", nil},
		inferred{"int; t", "p(X, Y) :- id(X, Y).", "", api.ErrTypes},
		inferred{"int; t", "p(X, Y) :- id(X, X, Y).", "", api.ErrTypes},
		inferred{"", "p :- id(X, Y, 1), id(Z, nil).", "int int int list(?0) list(?0)", nil},
		inferred{"T", "p(X) :- p(1), p(a), p(Y), p(X).", "T int t ?0", nil},
		inferred{"T", "p(X) :- id(X, Y), member(Y, Z).", "T T list(T)", nil},
		inferred{"T", "p(X) :- member(X, X).", "", api.ErrTypes},
		inferred{"", "p :- member(X, X).", "", api.ErrTypes},
		inferred{"list(int)", "p(X) :- member(Y, X), member(Z, Y).", "", api.ErrTypes},
		inferred{"list(list(U))", "p(X) :- member(Y, X), member(Z, Y).", "list(list(U)) list(U) U", nil},
		inferred{"", "p :- zip(cons(1, _), cons(a, _), X), member(Y, X).", "list(int) int list(int) list(t) t list(t) list(pair(int, t)) pair(int, t)", nil},
		inferred{"", "p :- turn(1, a, X).", "int t pair(t, int)", nil},
		inferred{"A; B", "p(X, Y) :- turn(X, Y, Z), turn(Y, X, U).", "A B pair(B, A) pair(A, B)", nil},
		inferred{"A; B", "p(X, Y) :- turn(X, Y, Z), turn(Y, X, Z).", "", api.ErrTypes},
		inferred{"A; B", "p(X, Y) :- p(Y, X), p(1, 1), p(nil, X).", "A B int int list(?0)", nil},
		// What is built in takes ints.
		inferred{"", "p :- add(A, B, C), sub(D, E, F), mul(G, H, I), div(J, K, L), mod(M, N, O).", "int" + strings.Repeat(" int", 14), nil},
		inferred{"", "p :- lt(A, B), le(C, D).", "int int int int", nil},
		inferred{"T", "p(X) :- lt(1, X).", "", api.ErrTypes},
		inferred{"", "p :- add(1, a, _).", "", api.ErrTypes},
		inferred{"", "p :- add(1, 2, X), X = a.", "", api.ErrTypes},
	)
}

// P7.1: goals within goals.
func TestGoalsWithin(t *testing.T) {
	holds(t,
		inferred{"", "p :- (X = 1 ; X = 2), Y = X.", "int int", nil},
		inferred{"", "p :- (X = 1 ; X = a).", "", api.ErrTypes},
		inferred{"", "p :- (X = 1 ; Y = a), (Y = b, q ; X = 2).", "int t", nil},
		inferred{"", "p :- not X = 1, X = a.", "", api.ErrTypes},
		inferred{"", "p :- not (X = nil, Y = cons(a, X)).", "list(t) list(t) t", nil},
		inferred{"", "p :- not not (q ; X = a).", "t", nil},
		inferred{"", "p :- try X = a catch E then Y = E.", "int t int", nil},
		inferred{"", "p :- try q catch E then q.", "int", nil},
		inferred{"", "p :- try q catch _ then q.", "int", nil},
		inferred{"int", "p(X) :- try q catch X then q.", "int", nil},
		inferred{"t", "p(X) :- try q catch X then q.", "", api.ErrTypes},
		inferred{"T", "p(X) :- try q catch X then q.", "", api.ErrTypes},
		inferred{"", "p :- try E = a catch E then q.", "", api.ErrTypes},
		inferred{"", "p :- try q catch E then E = a.", "", api.ErrTypes},
		inferred{"", "p :- try q catch E then q, E = a.", "", api.ErrTypes},
		inferred{"", "p :- try X = 1 catch E then X = a.", "", api.ErrTypes},
		inferred{"", "p :- try (X = 1 ; throw Y) catch E then (not Z = E ; id(U, X)).", "int int int int int", nil},
		// Clauses share arguments alone.
		inferred{"list(T); T", "p(cons(X, Y), X). p(Y, X) :- member(X, Y). p(_, _) :- X = 1, Y = a.", "list(T) T T list(T) int t", nil},
		inferred{"T; T", "p(X, Y) :- Z = 1. p(X, Y) :- X = Z.", "T T int T", nil},
		inferred{"T", "p(X) :- Y = X. p(X) :- Y = 1, X = Y.", "", api.ErrTypes},
	)
}

// P7.1: no type has more than 200 nodes.
func TestLarge(t *testing.T) {
	holds(t,
		inferred{"200", "", "200", nil},
		inferred{"201", "", "", api.ErrLarge},
		inferred{"int; 201", "", "", api.ErrLarge},
		inferred{"T; 200; 200", "", "T 200 200", nil},
		inferred{"199", "p(X) :- Y = s(X).", "199 200", nil},
		inferred{"200", "p(X) :- Y = s(X).", "", api.ErrLarge},
		inferred{"100; 99", "p(X, Y) :- Z = pair(X, Y).", "100 99 200", nil},
		inferred{"100; 100", "p(X, Y) :- Z = pair(X, Y).", "", api.ErrLarge},
		inferred{"100", "p(X) :- Z = pair(Y, Y), X = Y.", "", api.ErrLarge},
		inferred{"99", "p(X) :- Z = pair(Y, Y), X = Y.", "99 199 99", nil},
		inferred{"199", "p(X) :- s(X, Y).", "199 200", nil},
		inferred{"200", "p(X) :- s(X, Y).", "", api.ErrLarge},
		inferred{"200", "p(X) :- id(X, Y), full(X) = Z, Z = full(Y).", "200 200 bigs", nil},
		inferred{"", "p :- full(X) = Y, s(X) = Z.", "", api.ErrLarge},
		inferred{"", "p :- big(_).", "", api.ErrLarge},
		inferred{"", "p :- last(1, _).", "", api.ErrLarge},
		inferred{"", "p :- first(_, 1).", "", api.ErrLarge},
		inferred{"bigs", "p(first(_, _)).", "", api.ErrLarge},
		inferred{"bigs", "p(last(_, _)).", "", api.ErrLarge},
		inferred{"bigs", "p(full(X)).", "bigs 200", nil},
		// An unknown that a goal adds: pair(X)'s other variable is bound to a type of 100 nodes ahead of X.
		inferred{"100; 100", "p(X, Y) :- Z = pair(X), pair(Y, _) = Z.", "", api.ErrLarge},
		inferred{"100; 99", "p(X, Y) :- Z = pair(X), pair(Y, _) = Z.", "100 99 200 100", nil},
	)
}

// P7.1: what is unified first: an error of types or of room.
func TestFirstError(t *testing.T) {
	holds(t,
		// The arguments ahead of the goals; goals in order.
		inferred{"201", "p(_) :- 1 = a.", "", api.ErrLarge},
		inferred{"", "p :- 1 = a, big(_).", "", api.ErrTypes},
		inferred{"", "p :- big(_), 1 = a.", "", api.ErrLarge},
		inferred{"", "p :- 1 = a. p :- big(_).", "", api.ErrTypes},
		inferred{"", "p :- big(_). p :- 1 = a.", "", api.ErrLarge},
		inferred{"", "p :- 1 = a ; big(_).", "", api.ErrTypes},
		inferred{"", "p :- big(_) ; 1 = a.", "", api.ErrLarge},
		inferred{"", "p :- not 1 = a, big(_).", "", api.ErrTypes},
		inferred{"", "p :- not big(_), 1 = a.", "", api.ErrLarge},
		inferred{"", "p :- not (1 = a, big(_)).", "", api.ErrTypes},
		inferred{"", "p :- not (big(_), 1 = a).", "", api.ErrLarge},
		inferred{"", "p :- (q ; q, (not big(_) ; q)), 1 = a.", "", api.ErrLarge},
		inferred{"", "p :- (q ; q, (not 1 = a ; q)), big(_).", "", api.ErrTypes},
		// Of try: the first goal, what is raised, the second goal.
		inferred{"t", "p(E) :- try big(_) catch E then q.", "", api.ErrLarge},
		inferred{"t", "p(E) :- try q catch E then big(_).", "", api.ErrTypes},
		inferred{"", "p :- try E = a catch E then big(_).", "", api.ErrTypes},
		inferred{"", "p :- try q catch E then (big(_), E = a).", "", api.ErrLarge},
		inferred{"", "p :- try 1 = a catch _ then big(_).", "", api.ErrTypes},
		inferred{"", "p :- try big(_) catch _ then 1 = a.", "", api.ErrLarge},
		inferred{"", "p :- try q catch _ then big(_), 1 = a.", "", api.ErrLarge},
		inferred{"", "p :- try q catch _ then 1 = a, big(_).", "", api.ErrTypes},
		// Of a constructor: the variable itself ahead of the arguments, these in order.
		inferred{"int", "p(X) :- X = first(_, _).", "", api.ErrTypes},
		inferred{"int", "p(X) :- X = last(_, _).", "", api.ErrTypes},
		inferred{"t", "p(X) :- Y = first(_, X).", "", api.ErrLarge},
		inferred{"t", "p(X) :- Y = last(X, _).", "", api.ErrTypes},
		inferred{"t", "p(X) :- Y = last(_, X).", "", api.ErrLarge},
		inferred{"199", "p(X) :- Y = cons(X, 1), Z = s(s(X)).", "", api.ErrTypes},
		inferred{"200", "p(X) :- Y = cons(Z, X), Z = s(X).", "", api.ErrTypes},
		inferred{"200; t", "p(X, Y) :- Y = s(X).", "", api.ErrTypes},
		// Of a call: the arguments in order.
		inferred{"t", "p(X) :- first(_, X).", "", api.ErrLarge},
		inferred{"t", "p(X) :- last(X, _).", "", api.ErrTypes},
		inferred{"200; t", "p(X, Y) :- s(X, Y).", "", api.ErrTypes},
		inferred{"199; t", "p(X, Y) :- zip(cons(X, _), Y, _).", "", api.ErrTypes},
		// A type within itself, ahead of one that is too large.
		inferred{"150", "p(X) :- Y = pair(X, pair(X, Y)).", "", api.ErrLarge},
		inferred{"", "p :- pair(Z, U) = Y, id(Y, X), Z = s(X), big(_).", "", api.ErrTypes},
	)
}

// checked is a source, and what Check must answer.
type checked struct {
	text string
	err  error
}

// row is so many of one thing, divided by commas.
func row(what string, count int) string {
	return strings.TrimSuffix(strings.Repeat(what+", ", count), ", ")
}

// many is a clause of a predicate without arguments that needs so many variables.
func many(name string, vars int) string {
	return name + " :- " + row("q(_, _, _, _)", vars/4) + strings.Repeat(", r(_)", vars%4) + ".\n"
}

// P7.1: Check tells the first error, predicate by predicate.
func TestCheck(t *testing.T) {
	prelude := "type t = a. pred q(t, t, t, t). mode q(in, in, in, in) is det. pred r(t). mode r(in) is det.\n"
	first := "pred first. mode first is det.\n"
	second := "pred second. mode second is det.\n"
	odd := "pred odd(" + wide(201) + "). mode odd(in) is det. type pair(A, B) = pair(A, B). type s(A) = s(A).\n"
	for _, r := range []checked{
		{"", nil},
		{"type t = a.", nil},
		{prelude + first, nil},
		{prelude + first + second + "first :- second. second :- first, r(a).", nil},
		{prelude + first + "first :- r(1).", api.ErrTypes},
		{prelude + first + second + "second. first :- r(1).", api.ErrTypes},
		{prelude + second + first + "second. first :- r(1).", api.ErrTypes},
		{prelude + first + many("first", 200), nil},
		{prelude + first + many("first", 201), api.ErrLarge},
		// The body of one ahead of the other's, each with its types: in the order of the declarations.
		{prelude + first + second + many("second", 201) + "first :- r(1).", api.ErrTypes},
		{prelude + second + first + many("second", 201) + "first :- r(1).", api.ErrLarge},
		{prelude + first + second + many("first", 201) + "second :- r(1).", api.ErrLarge},
		{prelude + second + first + many("first", 201) + "second :- r(1).", api.ErrTypes},
		{prelude + first + many("first", 201) + "first :- r(1).", api.ErrLarge},
		{prelude + first + "first :- r(1).\n" + many("first", 201), api.ErrLarge},
		// A predicate without clauses has types as well.
		{odd, api.ErrLarge},
		{prelude + odd + first + "first :- r(1).", api.ErrLarge},
		{prelude + first + odd + "first :- r(1).", api.ErrTypes},
		{prelude + first + odd + "first :- r(a).", api.ErrLarge},
		{appendSource, nil},
		{appendSource + "append(1, _, _).", api.ErrTypes},
		{"pred p(int). mode p(in) is det. p(X) :- add(X, 1, Y), lt(X, Y).", nil},
	} {
		items, x := read(t, r.text)
		held(t, r.text, types.Check(items, x), r.err)
	}
}

// P7.1: Check tells Flatten's errors also where the index isn't the items'.
func TestCheckOfOthers(t *testing.T) {
	items, x := read(t, appendSource)
	held(t, "no items", types.Check(nil, x), api.ErrNone)
	held(t, "fewer items", types.Check(items[:5], x), api.ErrNone)
	held(t, "no index", types.Check(items, api.Index{}), nil)
	fewer := x
	fewer.Preds = slices.Clone(x.Preds)
	last := &fewer.Preds[len(fewer.Preds)-1]
	for _, clauses := range [][]int{{4}, {5}, {}} {
		last.Clauses = clauses
		held(t, "fewer clauses", types.Check(items, fewer), nil)
	}
}
