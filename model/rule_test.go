package model_test

import (
	"fmt"
	"strings"
	"testing"

	"augur/model"
)

// declared stands ahead of the tables' clauses: what they may use, besides p itself. The comments tell the steps of a search.
const declared = `type t = a | b | f(t) | g(t, t) | h(int). type list(T) = nil | cons(T, list(T)).
pred yes. mode yes is det. yes.
pred no. mode no is nondet.
pred two(int). mode two(out) is multi. two(2). two(1).
pred pair(int, int). mode pair(out, out) is multi. pair(1, 1). pair(2, 1). pair(1, 2). pair(2, 1).
pred next(int, int). mode next(in, out) is det. next(X, Y) :- add(X, 1, Y).
pred wrap(t, t). mode wrap(in, out) is det. mode wrap(out, in) is nondet. wrap(X, f(X)).
pred member(T, list(T)). mode member(out, in) is nondet. member(X, cons(X, _)). member(X, cons(_, L)) :- member(X, L).
pred append(list(T), list(T), list(T)). mode append(in, in, out) is nondet. mode append(out, out, in) is nondet. append(nil, Y, Y). append(cons(H, T), Y, cons(H, Z)) :- append(T, Y, Z).
`

// row is clauses of a p with these types and ways, what it is called with, the tuples, or why the search is aborted, and how many
// steps the search makes.
type row struct {
	types, ways, clauses string
	in, want             string
	steps                int
}

// source is the source of a row.
func (r row) source(t *testing.T) source {
	t.Helper()
	types, ways := inside(split(r.types, ", ")), inside(split(r.ways, ", "))
	return read(t, declared+"pred p"+types+". mode p"+ways+" is nondet. "+r.clauses)
}

// holds asks what each row tells, with each fuel.
func holds(t *testing.T, rows ...row) {
	t.Helper()
	for _, r := range rows {
		s, in := r.source(t), list(t, r.in)
		id := called(t, fmt.Sprintf("p/%d'0", len(split(r.types, ", "))))
		what := r.clauses + " of " + r.in
		held(t, what, s.solve(t, id, in, 1000), r.want)
		for fuel := -1; fuel <= r.steps+2; fuel++ {
			want, w := agree(t, s, id, in, fuel)
			held(t, fmt.Sprint(what, ", fuel ", fuel), w.end == model.Fuel, max(fuel, 0) < r.steps)
			if fuel >= r.steps {
				held(t, what, want, r.want)
				held(t, what+", steps", w.steps, r.steps)
			}
		}
	}
}

// P12.1: goals without goals within them, each by itself.
func TestPlainGoals(t *testing.T) {
	holds(t, []row{
		{"", "", "p.", "", "true", 1},
		{"", "", "p :- fail.", "", "", 1},
		{"", "", "", "", "", 1},
		{"int", "in", "", "5", "", 1},
		{"int", "in", "p(_).", "5", "5", 1},
		// FInt.
		{"int", "out", "p(5).", "", "5", 1},
		{"int", "in", "p(5).", "5", "5", 1},
		{"int", "in", "p(5).", "6", "", 1},
		{"int", "in", "p(0).", "0", "0", 1},
		{"int", "out", "p(-9223372036854775808).", "", "-9223372036854775808", 1},
		// FSame.
		{"int, int", "in, out", "p(X, X).", "7", "7, 7", 1},
		{"int, int", "out, in", "p(X, X).", "7", "7, 7", 1},
		{"int, int", "in, in", "p(X, X).", "7 | 7", "7, 7", 1},
		{"int, int", "in, in", "p(X, X).", "7 | 8", "", 1},
		{"t, t", "in, in", "p(X, X).", "g(a, f(b)) | g(a, f(b))", "g(a, f(b)), g(a, f(b))", 1},
		{"t, t", "in, in", "p(X, X).", "g(a, f(b)) | g(a, f(a))", "", 1},
		{"t, t", "in, out", "p(X, Y) :- Y = X.", "f(b)", "f(b), f(b)", 1},
		{"int", "in", "p(X) :- X = X.", "5", "5", 1},
		// FCtor that takes apart.
		{"t", "in", "p(a).", "a", "a", 1},
		{"t", "in", "p(a).", "b", "", 1},
		{"t", "in", "p(a).", "f(a)", "", 1},
		{"t, t", "in, out", "p(f(X), X).", "f(g(a, b))", "f(g(a, b)), g(a, b)", 3},
		{"t, t", "in, out", "p(g(X, Y), Y) :- true.", "g(a, b)", "g(a, b), b", 3},
		{"t, int", "in, out", "p(h(X), X).", "h(9)", "h(9), 9", 3},
		{"t, int", "in, in", "p(h(X), X).", "h(9) | 9", "h(9), 9", 3},
		{"t, int", "in, in", "p(h(X), X).", "h(9) | 8", "", 3},
		{"t, t", "in, in", "p(X, g(X, _)).", "a | g(a, b)", "a, g(a, b)", 1},
		{"t, t", "in, in", "p(X, g(X, _)).", "a | g(b, b)", "", 1},
		{"t, t", "in, in", "p(X, g(_, X)).", "a | g(b, b)", "", 1},
		{"t, t", "out, in", "p(X, g(X, X)).", "g(b, b)", "b, g(b, b)", 1},
		{"t, t", "out, in", "p(X, g(X, X)).", "g(a, b)", "", 1},
		{"t", "in", "p(X) :- X = f(X).", "f(a)", "", 1},
		// FCtor that builds.
		{"t", "out", "p(a).", "", "a", 1},
		{"t, t", "in, out", "p(X, f(X)).", "b", "b, f(b)", 1},
		{"t, t, t", "in, in, out", "p(X, Y, g(Y, X)).", "a | b", "a, b, g(b, a)", 1},
		{"t, t", "in, out", "p(X, g(X, X)).", "b", "b, g(b, b)", 1},
		{"int, t", "in, out", "p(X, h(X)).", "-3", "-3, h(-3)", 1},
		{"int, list(int)", "in, out", "p(X, cons(X, nil)).", "4", "4, cons(4, nil)", 3},
		{"t", "out", "p(g(f(a), h(7))).", "", "g(f(a), h(7))", 6},
		// FThrow.
		{"int", "in", "p(X) :- throw X.", "5", "raised", 1},
		{"int", "in", "p(X) :- throw 0.", "5", "raised", 3},
	}...)
}

// P12.1: predicates that are built in.
func TestBuiltins(t *testing.T) {
	holds(t, []row{
		{"int, int", "in, out", "p(X, Y) :- add(X, X, Y).", "7", "7, 14", 1},
		{"int, int, int", "in, in, out", "p(X, Y, Z) :- sub(X, Y, Z).", "7 | 2", "7, 2, 5", 1},
		{"int, int, int", "in, in, out", "p(X, Y, Z) :- mul(X, Y, Z).", "7 | -2", "7, -2, -14", 1},
		{"int, int, int", "in, in, out", "p(X, Y, Z) :- div(X, Y, Z).", "-7 | 2", "-7, 2, -3", 1},
		{"int, int, int", "in, in, out", "p(X, Y, Z) :- mod(X, Y, Z).", "-7 | 2", "-7, 2, -1", 1},
		{"int, int, int", "in, in, in", "p(X, Y, Z) :- add(X, Y, Z).", "7 | 2 | 9", "7, 2, 9", 1},
		{"int, int, int", "in, in, in", "p(X, Y, Z) :- add(X, Y, Z).", "7 | 2 | 8", "", 1},
		{"int, int", "in, in", "p(X, Y) :- lt(X, Y).", "1 | 2", "1, 2", 1},
		{"int, int", "in, in", "p(X, Y) :- lt(X, Y).", "2 | 2", "", 1},
		{"int, int", "in, in", "p(X, Y) :- le(X, Y).", "2 | 2", "2, 2", 1},
		{"int, int", "in, in", "p(X, Y) :- le(X, Y).", "3 | 2", "", 1},
		{"int, int", "in, out", "p(X, Y) :- div(1, X, Y).", "0", "raised", 3},
		{"int, int", "in, in", "p(X, Y) :- div(1, X, Y).", "0 | 1", "raised", 3},
		{"int, int", "in, out", "p(X, Y) :- mod(1, X, Y).", "0", "raised", 3},
		{"int, int", "in, out", "p(X, Y) :- add(X, 1, Y).", "9223372036854775807", "raised", 3},
		{"int, int", "in, out", "p(X, Y) :- mul(X, X, Y).", "9223372036854775807", "raised", 1},
		{"int, int", "in, out", "p(X, Y) :- mod(X, -1, Y).", "-9223372036854775808", "-9223372036854775808, 0", 3},
		// Not ready until both are known: it has to wait for the int, which stands ahead of it.
		{"int", "out", "p(Y) :- add(1, 2, Y).", "", "3", 4},
		{"int, int", "in, out", "p(X, Y) :- add(Z, 1, Y), add(X, 1, Z).", "5", "5, 7", 5},
		{"int", "in", "p(X) :- add(X, Y, 3).", "5", "stuck", 2},
	}...)
}

// P12.1: from the last to the first, the first one that is ready.
func TestFromTheLast(t *testing.T) {
	holds(t, []row{
		{"int, int", "out, out", "p(X, Y) :- X = 1, Y = 2.", "", "1, 2", 3},
		// What fails or raises first is the last one.
		{"int", "in", "p(X) :- throw X, fail.", "5", "", 2},
		{"int", "in", "p(X) :- fail, throw X.", "5", "raised", 2},
		{"int", "in", "p(X) :- fail, throw 1.", "5", "raised", 3},
		{"int", "in", "p(X) :- throw X, X = 6, yes.", "5", "", 4},
		{"int", "in", "p(X) :- throw X, yes, X = 5.", "5", "raised", 5},
		{"int", "in", "p(X) :- fail, X = 4, X = 5, X = 6.", "5", "", 2},
		{"int", "in", "p(X) :- fail, X = 6, X = 5, X = 5.", "5", "", 4},
		// Behind each goal that is taken it is the last one again.
		{"int", "in", "p(X) :- throw Z, Z = Y, Y = X.", "5", "raised", 4},
		{"int", "in", "p(X) :- throw Z, Y = X, fail, Z = Y.", "5", "", 2},
		{"int", "in", "p(X) :- fail, Y = X, throw Z, Z = Y.", "5", "raised", 4},
		{"int", "in", "p(X) :- Z = X, fail, Y = Z, throw Y.", "5", "", 2},
		{"int", "in", "p(X) :- fail, Z = X, throw Z.", "5", "raised", 3},
		{"int", "in", "p(X) :- throw X, Z = X, lt(Z, Z).", "5", "", 3},
		{"int", "in", "p(X) :- throw X, lt(Z, Z), Z = X.", "5", "", 3},
		{"int", "in", "p(X) :- lt(Z, Z), throw X, Z = X.", "5", "raised", 3},
		// A list's goals stand in its place.
		{"int", "in", "p(X) :- throw X ; throw X, fail.", "5", "raised", 2},
		{"int", "in", "p(X) :- (X = 5 ; fail), (X = 6, fail ; X = 5, throw X).", "5", "raised", 8},
		{"int", "in", "p(X) :- (true ; fail), try (throw X, fail) catch _ then true, yes.", "5", "", 6},
		{"int", "in", "p(X) :- try (fail, throw X) catch _ then true, yes.", "5", "raised", 6},
		{"int", "in", "p(X) :- throw X, try (yes, fail) catch _ then true.", "5", "", 4},
	}...)
}

// P12.1: an FTry is its first goal, as if nothing were raised.
func TestTry(t *testing.T) {
	holds(t, []row{
		{"int, int", "in, out", "p(X, Y) :- try Y = X catch E then Y = E.", "5", "5, 5", 2},
		{"int, int", "in, out", "p(X, Y) :- try add(X, X, Y) catch E then Y = E.", "5", "5, 10", 2},
		{"int, int", "in, out", "p(X, Y) :- try mul(X, X, Y) catch E then Y = E.", "9223372036854775807", "raised", 2},
		{"int, int", "in, out", "p(X, Y) :- try (throw X, Y = 1) catch E then Y = E.", "5", "raised", 4},
		{"int", "in", "p(X) :- try X = 6 catch _ then throw X.", "5", "", 2},
		{"int", "in", "p(X) :- try throw X catch X then true.", "5", "raised", 2},
		// All solutions of the first goal.
		{"int", "out", "p(Y) :- try two(Y) catch E then Y = E.", "", "1 ; 2", 5},
		{"int", "out", "p(Y) :- try (Y = 2 ; Y = 1) catch E then Y = E.", "", "1 ; 2", 4},
		{"", "", "p :- try try yes catch _ then fail catch _ then fail.", "", "true", 4},
		// X isn't given a value, nor is one asked for.
		{"int", "in", "p(X) :- try true catch X then fail.", "5", "5", 2},
		{"int", "out", "p(X) :- try true catch X then fail.", "", "stuck", 2},
		{"int", "out", "p(X) :- try true catch X then fail, X = 3.", "", "3", 4},
	}...)
}

// P12.1: choices are taken when nothing is ready, the first one first, its goals in order.
func TestOr(t *testing.T) {
	holds(t, []row{
		{"int", "out", "p(1). p(2).", "", "1 ; 2", 3},
		{"int", "out", "p(2). p(1).", "", "1 ; 2", 3},
		{"int", "out", "p(1). p(1).", "", "1", 3},
		{"int", "out", "p(3). p(1). p(2). p(1). p(3).", "", "1 ; 2 ; 3", 6},
		{"int", "in", "p(3). p(1). p(2). p(1). p(3).", "3", "3", 6},
		{"int", "in", "p(3). p(1). p(2). p(1). p(3).", "4", "", 6},
		{"", "", "p. p :- fail. p.", "", "true", 4},
		{"", "", "p :- fail. p :- fail.", "", "", 3},
		// Behind what is ready.
		{"int", "out", "p(X) :- (X = 1 ; X = 2), X = 2.", "", "2", 5},
		{"int", "out", "p(X) :- X = 2, (X = 1 ; X = 2).", "", "2", 5},
		{"int", "in", "p(X) :- (X = 1 ; X = 2), X = 3, X = 4.", "3", "", 2},
		// The first one first, not the last one.
		{"int, int", "out, out", "p(X, Y) :- (X = 1 ; X = 2), (Y = 1 ; fail, Y = 2).", "", "1, 1 ; 2, 1", 14},
		{"int, int", "out, out", "p(X, Y) :- (Y = 1 ; fail, Y = 2), (X = 1 ; X = 2).", "", "1, 1 ; 2, 1", 9},
		{"int, int", "out, out", "p(X, Y) :- (X = 2 ; X = 1), (Y = X ; Y = 3).", "", "1, 1 ; 1, 3 ; 2, 2 ; 2, 3", 10},
		// A goal stands in the place of its choice.
		{"int", "in", "p(X) :- (true ; throw X), (fail ; true).", "5", "raised", 7},
		{"int", "in", "p(X) :- (throw X ; true), (fail ; true).", "5", "raised", 3},
		{"int", "in", "p(X) :- ((fail ; X = 6) ; throw X).", "5", "raised", 5},
		{"int", "in", "p(X) :- (throw Y ; true), (fail ; Y = X).", "5", "raised", 6},
		// What a goal of a choice gives isn't known in the others.
		{"int", "out", "p(X) :- (X = 1, X = 2 ; X = 3).", "", "3", 5},
		{"int, int", "out, out", "p(X, Y) :- (Z = 1, X = Z ; X = 2, Z = X), Y = Z.", "", "1, 1 ; 2, 2", 10},
		{"int", "out", "p(X) :- (two(X) ; X = 3 ; two(X)).", "", "1 ; 2 ; 3", 10},
		// In order: what aborts the search comes behind others, or not.
		{"int", "in", "p(X) :- X = 5 ; throw X.", "5", "raised", 3},
		{"int", "in", "p(X) :- throw X ; X = 5.", "5", "raised", 2},
		{"int", "out", "p(X) :- X = 1 ; true.", "", "stuck", 3},
		{"int", "out", "p(X) :- true ; throw 1.", "", "stuck", 2},
		{"int", "out", "p(X) :- throw 1 ; true.", "", "raised", 4},
	}...)
}

// P12.1: what is refuted, when nothing is ready and there is no choice.
func TestNot(t *testing.T) {
	holds(t, []row{
		{"", "", "p :- not fail.", "", "true", 2},
		{"", "", "p :- not true.", "", "", 2},
		{"", "", "p :- not not true.", "", "true", 3},
		{"int", "in", "p(X) :- not X = 1.", "2", "2", 2},
		{"int", "in", "p(X) :- not X = 1.", "1", "", 2},
		{"t", "in", "p(X) :- not X = f(_).", "a", "a", 2},
		{"t", "in", "p(X) :- not X = f(_).", "f(b)", "", 2},
		{"int", "in", "p(X) :- not two(X).", "3", "3", 5},
		{"int", "in", "p(X) :- not two(X).", "2", "", 5},
		// Behind what is ready, and behind choices.
		{"int", "out", "p(X) :- not X = 1, X = 2.", "", "2", 4},
		{"int", "out", "p(X) :- not X = 1, (X = 1 ; X = 2).", "", "2", 8},
		{"int", "in", "p(X) :- not throw X, fail.", "5", "", 2},
		{"int", "in", "p(X) :- fail, not throw X.", "5", "", 2},
		{"int", "in", "p(X) :- not throw X, (X = 4 ; X = 6).", "5", "", 4},
		// The first one first.
		{"int", "in", "p(X) :- not X = 1, not throw X.", "1", "", 3},
		{"int", "in", "p(X) :- not throw X, not X = 1.", "1", "raised", 3},
		{"int", "in", "p(X) :- not X = 1, not throw X.", "2", "raised", 5},
		// The first one whose variables that are outside it are known.
		{"int, int", "in, out", "p(X, Y) :- not Y = X, next(X, Y).", "5", "5, 6", 7},
		{"int", "in", "p(X) :- not (Y = X, Z = 1), not not (X = Y, throw Z), not (Y = 4).", "5", "stuck", 1},
		{"int", "in", "p(X) :- not Y = 5, not (X = 5, Y = 5), not X = 6, Z = Y.", "5", "stuck", 3},
		{"int", "in", "p(X) :- (not X = 4 ; Y = 5, not X = Y), not X = 6.", "5", "5", 10},
		// Those of its own needn't be, also if they have the name of one in another clause.
		{"int", "in", "p(X) :- not (Y = X, Y = 4).", "5", "5", 4},
		{"int", "in", "p(X) :- not (X = Y, Y = 5). p(X) :- not Y = 4, Y = X.", "5", "5", 9},
		{"int", "in", "p(X) :- not (two(Y), Y = X).", "3", "3", 7},
		// An argument is outside it wherever it occurs.
		{"int, int", "in, out", "p(X, Y) :- not (Y = X, fail).", "5", "stuck", 0},
		{"int, int", "in, in", "p(X, Y) :- not (Y = X, fail).", "5 | 6", "5, 6", 3},
		// In it arguments needn't be known, only goals that hold are asked for.
		{"int", "out", "p(X) :- not true.", "", "", 2},
		{"int", "out", "p(X) :- not fail.", "", "stuck", 2},
		{"int", "out", "p(X) :- not true, not throw 1.", "", "", 3},
		{"int", "in", "p(X) :- not Y = Z.", "5", "stuck", 1},
		{"int", "in", "p(X) :- not (not Y = 1, Y = Z), throw X.", "5", "raised", 2},
		// Its search goes to its end.
		{"", "", "p :- not (true ; true).", "", "", 4},
		{"", "", "p :- not (fail ; true ; fail).", "", "", 5},
		{"int", "in", "p(X) :- not (true ; throw X).", "5", "raised", 4},
		{"int", "in", "p(X) :- not (throw X ; true).", "5", "raised", 3},
		{"int", "in", "p(X) :- not (two(Y), (Y = X ; Y = 1)).", "5", "", 12},
		// What it makes known is known in it alone.
		{"int, int", "in, out", "p(X, Y) :- (not (Z = 1, Z = X) ; X = 9), Y = X.", "5", "5, 5", 8},
		{"int, int", "in, out", "p(X, Y) :- not (Z = X, Z = 6), W = 7, not (Z = W, Z = 8), Y = W.", "5", "stuck", 3},
		{"int", "in", "p(X) :- not not (Y = X, Y = 5), not not (Z = X, Z = 5).", "5", "5", 11},
	}...)
}

// P12.1: calls of other predicates.
func TestCalls(t *testing.T) {
	holds(t, []row{
		{"", "", "p :- yes.", "", "true", 2},
		{"", "", "p :- no.", "", "", 2},
		{"", "", "p :- yes, no.", "", "", 3},
		{"", "", "p :- no, yes.", "", "", 5},
		{"int", "out", "p(X) :- two(X).", "", "1 ; 2", 4},
		{"int", "in", "p(X) :- two(X).", "2", "2", 4},
		{"int", "in", "p(X) :- two(X).", "3", "", 4},
		{"int, int", "out, out", "p(X, Y) :- two(X), two(Y).", "", "1, 1 ; 1, 2 ; 2, 1 ; 2, 2", 13},
		// Tuples are found once, and in order: the first one is 1.
		{"int, int", "out, out", "p(X, Y) :- pair(X, Y).", "", "1, 1 ; 1, 2 ; 2, 1", 14},
		{"int, int", "out, out", "p(Y, X) :- pair(X, Y).", "", "1, 1 ; 1, 2 ; 2, 1", 14},
		{"int, int", "out, in", "p(X, Y) :- pair(X, Y).", "1", "1, 1 ; 2, 1", 13},
		{"int", "out", "p(X) :- pair(X, X).", "", "1", 14},
		{"int", "in", "p(X) :- pair(X, X).", "2", "", 11},
		{"int, int", "out, out", "p(X, Y) :- (Y = 1 ; Y = 2, throw Y), two(X).", "", "raised", 10},
		{"int", "out", "p(X) :- (throw X, X = 1 ; X = 2), two(X).", "", "raised", 9},
		{"int", "out", "p(X) :- (throw X, X = 2 ; X = 1), two(X).", "", "raised", 13},
		// All tuples are found ahead of what follows.
		{"int", "out", "p(X) :- r(X), throw X. pred r(int). mode r(out) is nondet. r(X) :- X = 1 ; throw 2.", "", "raised", 7},
		{"int", "out", "p(X) :- X = 3, r(X). pred r(int). mode r(out) is nondet. r(X) :- X = 1 ; throw 2.", "", "raised", 7},
		// Ready in any of the predicate's modes; all arguments that are known are known there, not only those that are in.
		{"int, int", "in, out", "p(X, Y) :- next(X, Y).", "5", "5, 6", 4},
		{"int, int", "out, in", "p(X, Y) :- next(X, Y).", "5", "stuck", 0},
		{"int, int", "in, in", "p(X, Y) :- next(X, Y).", "5 | 6", "5, 6", 4},
		{"int, int", "in, in", "p(X, Y) :- next(X, Y).", "5 | 7", "", 4},
		{"int, int", "out, out", "p(X, Y) :- next(X, Y).", "", "stuck", 0},
		{"int, int", "in, out", "p(X, Y) :- next(Z, Y), next(X, Z).", "5", "5, 7", 9},
		{"t, t", "in, out", "p(X, Y) :- wrap(X, Y).", "a", "a, f(a)", 2},
		{"t, t", "out, in", "p(X, Y) :- wrap(X, Y).", "f(a)", "a, f(a)", 2},
		{"t, t", "out, in", "p(X, Y) :- wrap(X, Y).", "a", "", 2},
		{"t, t", "in, in", "p(X, Y) :- wrap(X, Y).", "a | f(b)", "", 2},
		{"t, t", "in, out", "p(X, Y) :- wrap(Z, Y), wrap(X, Z).", "a", "a, f(f(a))", 5},
		// An argument that occurs often.
		{"t", "in", "p(X) :- wrap(X, X).", "f(a)", "", 2},
		{"t", "out", "p(X) :- wrap(X, X).", "", "stuck", 0},
		// A predicate has variables of its own.
		{"t, t", "in, out", "p(X, Y) :- f(Z) = X, wrap(W, X), wrap(W, V), wrap(Z, Y), V = Y.", "f(a)", "f(a), f(a)", 9},
		// One that was found known doesn't stay so for another one that calls it.
		{"int, int", "out, out", "p(X, Y) :- two(X), two(Y), lt(X, Y).", "", "1, 2", 17},
		// Not ready, a mode that doesn't fit, and what waits for it.
		{"int, list(int)", "out, out", "p(X, L) :- member(X, L), L = cons(3, cons(4, nil)).", "", "3, cons(3, cons(4, nil)) ; 4, cons(3, cons(4, nil))", 21},
		{"int, list(int)", "in, out", "p(X, L) :- member(X, L).", "1", "stuck", 0},
		{"int, list(int)", "in, in", "p(X, L) :- member(X, L).", "2 | cons(1, cons(2, nil))", "2, cons(1, cons(2, nil))", 15},
		{"int, list(int)", "out, in", "p(X, L) :- member(X, L).", "nil", "", 5},
		// Raised, or stuck, in what is called.
		{"int", "in", "p(X) :- r(X). pred r(int). mode r(in) is nondet. r(X) :- throw X.", "5", "raised", 2},
		{"int", "in", "p(X) :- r(X, _). pred r(int, int). mode r(in, out) is nondet. r(X, _).", "5", "stuck", 2},
		{"int", "in", "p(X) :- not r(X, _). pred r(int, int). mode r(in, out) is nondet. r(X, _).", "5", "stuck", 3},
	}...)
}

// P12.1: the document's examples.
func TestExamples(t *testing.T) {
	s := read(t, declared)
	held(t, "append", s.solve(t, called(t, "append/3'1"), list(t, "cons(1, nil)"), 1000), "cons(1, nil), nil, cons(1, nil) ; nil, cons(1, nil), cons(1, nil)")
	held(t, "member", s.solve(t, called(t, "member/2'0"), list(t, "cons(1, cons(1, nil))"), 1000), "1, cons(1, cons(1, nil))")
	held(t, "member", s.solve(t, called(t, "member/2'0"), list(t, "cons(1, cons(2, cons(1, nil)))"), 1000),
		strings.ReplaceAll("1, L ; 2, L", "L", "cons(1, cons(2, cons(1, nil)))"))
}
