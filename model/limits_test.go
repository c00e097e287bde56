package model_test

import (
	"fmt"
	"math"
	"slices"
	"strings"
	"testing"

	"augur/api"
	"augur/model"
	"augur/names"
	"augur/sem"
)

// bodied is a source of one predicate p without arguments, whose body is a goal that no text has, large as it may be.
func bodied(t *testing.T, body api.Goal) source {
	t.Helper()
	items := []api.Item{
		{Kind: api.ItemPred, Name: "p"}, {Kind: api.ItemMode, Name: "p", Det: api.Nondet},
		{Kind: api.ItemClause, Name: "p", Body: body},
	}
	x, err := names.Resolve(items)
	if err != nil {
		t.Fatal(err)
	}
	return source{text: "a body", items: items, x: x}
}

func goal(kind int, goals ...api.Goal) api.Goal { return api.Goal{Kind: kind, Goals: goals} }

// many is a goal of so many goals.
func many(kind, count int, part api.Goal) api.Goal {
	return goal(kind, slices.Repeat([]api.Goal{part}, count)...)
}

func p() api.ProcId { return api.ProcId{Pred: key("p", 0)} }

// P12.1: all searches together make no more steps than the fuel, nor than MaxSteps.
func TestFuel(t *testing.T) {
	for _, r := range []struct {
		choices, fuel int
		want          string
	}{
		{99999, 100000, "true"},
		{99999, 100001, "true"},
		{99999, math.MaxInt, "true"},
		{99999, 99999, "fuel"},
		{100000, 100000, "fuel"},
		{100000, 100001, "fuel"},
		{100000, math.MaxInt, "fuel"},
		{5, 6, "true"},
		{5, 5, "fuel"},
		{5, 1, "fuel"},
		{5, 0, "fuel"},
		{5, -1, "fuel"},
		{5, math.MinInt, "fuel"},
	} {
		held(t, form(r), bodied(t, many(api.GOr, r.choices, goal(api.GTrue))).solve(t, p(), nil, r.fuel), r.want)
	}
	held(t, "MaxSteps", sem.MaxSteps, 100000)
	// Steps of searches within others count as well: four for each call, and three for the others.
	s := read(t, "pred q. mode q is nondet. q :- true ; true. pred p. mode p is nondet. p :- q, q, q, q, q, not (q, q).")
	for fuel := range 40 {
		agree(t, s, p(), nil, fuel)
	}
	held(t, "all", s.solve(t, p(), nil, 31), "")
	held(t, "all but one", s.solve(t, p(), nil, 30), "fuel")
}

// down calls itself as often as its input tells, each time in a search within the one before.
const down = "pred down(int). mode down(in) is nondet. down(0). down(N) :- sub(N, 1, M), down(M), lt(0, N). "

// P12.1: how deep searches may nest, that of the call itself being 1.
func TestNest(t *testing.T) {
	for _, r := range []struct {
		clauses string
		most    int // with one more it nests too deep
	}{
		{"p(X) :- down(X).", 98},
		{"p(X) :- down(X), down(X), down(X).", 98},
		{"p(X) :- q(X). pred q(int). mode q(in) is nondet. q(X) :- down(X).", 97},
		{"p(X) :- X = 7 ; try down(X) catch _ then true.", 98},
		// What is refuted has the nest of what is around it.
		{"p(X) :- not not not not down(X).", 98},
		{"p(X) :- not q(X) ; true. pred q(int). mode q(in) is nondet. q(X) :- not not down(X).", 97},
		// A predicate that is built in isn't nested.
		{"p(X) :- down(X), add(X, 1, Y), lt(X, Y).", 98},
	} {
		s := read(t, down+"pred p(int). mode p(in) is nondet. "+r.clauses)
		for n := r.most - 1; n <= r.most+1; n++ {
			id, in, want := called(t, "p/1'0"), []api.Data{number(n)}, fmt.Sprint(n)
			if n > r.most {
				want = "fuel"
			}
			held(t, fmt.Sprint(r.clauses, n), s.solve(t, id, in, 100000), want)
			agree(t, s, id, in, 100000)
		}
	}
	s := read(t, down)
	held(t, "99", s.solve(t, called(t, "down/1'0"), list(t, "99"), 100000), "99")
	held(t, "100", s.solve(t, called(t, "down/1'0"), list(t, "100"), 100000), "fuel")
	held(t, "MaxNest", model.MaxNest, 100)
}

// chain is data of a depth.
func chain(depth int) api.Data {
	d := made("a")
	for range depth - 1 {
		d = made("f", d)
	}
	return d
}

// tree is data of so many nodes, not deep.
func tree(nodes int) api.Data {
	switch nodes {
	case 1:
		return made("a")
	case 2:
		return made("f", made("b"))
	}
	half := (nodes - 1) / 2
	return made("g", tree(half), tree(nodes-1-half))
}

// P12.1: a value that is too large or too deep aborts the search, where it is built.
func TestLarge(t *testing.T) {
	for _, r := range []struct {
		clauses  string
		in       []api.Data
		isLarge  bool
		wantElse bool // whether there is a tuple
		steps    int
	}{
		{"p(X, Y) :- Y = f(X).", []api.Data{chain(199)}, false, true, 1},
		{"p(X, Y) :- Y = f(X).", []api.Data{chain(200)}, true, false, 1},
		{"p(X, Y) :- Y = g(a, X).", []api.Data{chain(199)}, false, true, 3},
		{"p(X, Y) :- Y = g(a, X).", []api.Data{chain(200)}, true, false, 3},
		{"p(X, Y) :- Y = f(X).", []api.Data{tree(4095)}, false, true, 1},
		{"p(X, Y) :- Y = f(X).", []api.Data{tree(4096)}, true, false, 1},
		{"p(X, Y) :- Y = g(X, X).", []api.Data{tree(2047)}, false, true, 1},
		{"p(X, Y) :- Y = g(X, X).", []api.Data{tree(2048)}, true, false, 1},
		{"p(X, Y) :- Y = X.", []api.Data{tree(4096)}, false, true, 1},
		{"p(X, Y) :- Y = X.", []api.Data{chain(200)}, false, true, 1},
		// Where both sides are known, nothing is built.
		{"p(X, Y) :- Y = a, Y = f(X).", []api.Data{chain(200)}, true, false, 2},
		{"p(X, Y) :- Y = f(X), Y = a.", []api.Data{chain(200)}, false, false, 3},
		{"p(X, Y) :- X = f(X), Y = a.", []api.Data{chain(200)}, false, false, 3},
		// Nothing keeps the search from being aborted, whatever was found.
		{"p(X, Y) :- try Y = f(X) catch _ then Y = a.", []api.Data{chain(200)}, true, false, 2},
		{"p(X, Y) :- Y = a, not (Z = b, Z = f(X)).", []api.Data{chain(200)}, true, false, 5},
		{"p(X, Y) :- Y = X ; Y = f(X).", []api.Data{chain(200)}, true, false, 3},
		{"p(X, Y) :- Y = f(X) ; throw 1, Y = X.", []api.Data{chain(200)}, true, false, 2},
		{"p(X, Y) :- Y = f(X), fail.", []api.Data{chain(200)}, false, false, 2},
		{"p(X, Y) :- q(X, Y). pred q(t, t). mode q(in, out) is nondet. q(X, f(X)).", []api.Data{chain(200)}, true, false, 2},
		{"p(X, Y) :- q(X, Y). pred q(t, t). mode q(in, out) is nondet. q(X, f(X)).", []api.Data{chain(199)}, false, true, 2},
	} {
		s := read(t, "type t = a | b | f(t) | g(t, t). pred p(t, t). mode p(in, out) is nondet. "+r.clauses)
		id, what := api.ProcId{Pred: key("p", 2)}, r.clauses
		got, end, err := model.Solutions(s.items, s.x, id, r.in, r.steps)
		held(t, what, err, nil)
		held(t, what, end == model.Large, r.isLarge)
		held(t, what, end == model.Ended, !r.isLarge)
		held(t, what, len(got) == 1, r.wantElse)
		_, end, _ = model.Solutions(s.items, s.x, id, r.in, r.steps-1)
		held(t, what, end, model.Fuel)
		agree(t, s, id, r.in, 1000)
	}
}

// P12.1: which error is told, and that there is nothing beside it.
func TestErrors(t *testing.T) {
	s := read(t, lists+"pred both(list(T), T, int). mode both(in, in, in) is semidet. mode both(in, out, in) is nondet. both(L, X, 1) :- L = cons(X, _).")
	empty, deep, large := made("nil"), chain(201), tree(4097)
	one := list(t, "cons(1, nil)")[0]
	for _, r := range []struct {
		call string
		in   []api.Data
		err  error
	}{
		{"append/3'0", []api.Data{empty, empty}, nil},
		{"append/3'4", []api.Data{empty, empty}, api.ErrNone},
		{"append/3'-1", []api.Data{empty, empty}, api.ErrNone},
		{"append/2'0", []api.Data{empty, empty}, api.ErrNone},
		{"appen/3'0", []api.Data{empty, empty}, api.ErrNone},
		{"add/3'0", []api.Data{number(1), number(2)}, api.ErrNone},
		{"lt/2'0", []api.Data{number(1), number(2)}, api.ErrNone},
		{"append/3'9", []api.Data{deep}, api.ErrNone},
		{"add/3'0", []api.Data{deep}, api.ErrNone},
		{"lt/2'0", []api.Data{empty, number(1)}, api.ErrNone},
		{"append/3'0", nil, api.ErrData},
		{"append/3'0", []api.Data{empty}, api.ErrData},
		{"append/3'0", []api.Data{empty, empty, empty}, api.ErrData},
		{"append/3'3", []api.Data{empty, empty}, api.ErrData},
		{"append/3'3", []api.Data{empty}, nil},
		{"append/3'0", []api.Data{empty, number(1)}, api.ErrData},
		{"append/3'0", []api.Data{number(1), empty}, api.ErrData},
		{"append/3'0", []api.Data{empty, made("none")}, api.ErrData},
		{"append/3'0", []api.Data{empty, made("cons", number(1))}, api.ErrData},
		{"append/3'0", []api.Data{one, made("cons", made("a"), empty)}, api.ErrData},
		{"append/3'0", []api.Data{one, one}, nil},
		{"append/3'1", []api.Data{one, one}, nil},
		{"append/3'1", []api.Data{one, number(1)}, api.ErrData},
		{"append/3'0", []api.Data{deep, empty}, api.ErrLarge},
		{"append/3'0", []api.Data{number(1), large}, api.ErrLarge},
		{"append/3'0", []api.Data{large}, api.ErrLarge},
		{"append/3'0", []api.Data{tree(4096), empty}, api.ErrData},
		{"both/3'0", []api.Data{one, number(1), number(1)}, nil},
		{"both/3'0", []api.Data{one, empty, number(1)}, api.ErrData},
		{"both/3'0", []api.Data{empty, empty, number(1)}, nil},
		{"both/3'1", []api.Data{one, number(1)}, nil},
		{"both/3'1", []api.Data{one, empty}, api.ErrData},
		{"member/2'1", []api.Data{chain(200), empty}, nil},
		{"member/2'1", []api.Data{tree(4096), empty}, nil},
		{"member/2'1", []api.Data{tree(4097), empty}, api.ErrLarge},
	} {
		for _, fuel := range []int{-1, 0, 100} {
			what := fmt.Sprint(r.call, " of ", form(r.in), fuel)
			got, end, err := model.Solutions(s.items, s.x, called(t, r.call), r.in, fuel)
			held(t, what, err, r.err)
			if r.err != nil {
				held(t, what, []any{got, end}, []any{[][]api.Data(nil), 0})
			} else if fuel < 100 {
				held(t, what, []any{got, end}, []any{[][]api.Data(nil), model.Fuel})
			} else {
				held(t, what, end, model.Ended)
			}
		}
	}
}

// P12.1: a source that isn't compiled may have a predicate that layer 5 makes no body of: its error is told where that is searched.
func TestNoBody(t *testing.T) {
	wide := "p(X) :- q(X, " + strings.Repeat("_, ", 6) + "_)"
	s := read(t, "pred q(int, int, int, int, int, int, int, int). mode q(in, out, out, out, out, out, out, out) is nondet. "+
		"pred p(int). mode p(in) is nondet. "+wide+strings.Repeat(", q(X, "+strings.Repeat("_, ", 6)+"_)", 28)+". "+
		"pred r(int). mode r(in) is nondet. r(X) :- X = 1 ; X = 2, p(X).")
	for _, r := range []struct {
		call, in string
		err      error
	}{
		{"p/1'0", "1", api.ErrLarge},
		{"r/1'0", "1", api.ErrLarge},
		{"q/8'0", "1", nil},
	} {
		got, end, err := model.Solutions(s.items, s.x, called(t, r.call), list(t, r.in), 100)
		held(t, r.call, []any{got, err}, []any{[][]api.Data(nil), r.err})
		held(t, r.call, end == 0, r.err != nil)
	}
	got, end, err := model.Solutions(nil, s.x, called(t, "r/1'0"), list(t, "1"), 100)
	held(t, "no items", []any{got, end, err}, []any{[][]api.Data(nil), 0, api.ErrNone})
}

// P12.1: all arguments of a solution.
func TestTuple(t *testing.T) {
	out := func(list ...api.Data) api.Outcome { return api.Outcome{Out: list} }
	for _, r := range []struct {
		ways    string
		in, out []api.Data
		want    []api.Data
	}{
		{"", nil, nil, nil},
		{"i", list(t, "5"), nil, list(t, "5")},
		{"o", nil, list(t, "5"), list(t, "5")},
		{"io", list(t, "1"), list(t, "2"), list(t, "1 | 2")},
		{"oi", list(t, "1"), list(t, "2"), list(t, "2 | 1")},
		{"ooi", list(t, "f(a)"), list(t, "2 | g(b, 3)"), list(t, "2 | g(b, 3) | f(a)")},
		{"iioioio", list(t, "1 | 2 | 3 | 4"), list(t, "a | b | c"), list(t, "1 | 2 | a | 3 | b | 4 | c")},
		{"oooooooo", nil, list(t, "1 | 2 | 3 | 4 | 5 | 6 | 7 | 8"), list(t, "1 | 2 | 3 | 4 | 5 | 6 | 7 | 8")},
	} {
		var proc api.Proc
		for _, way := range r.ways {
			proc.In = append(proc.In, way == 'i')
		}
		held(t, r.ways, model.Tuple(out(r.out...), proc, r.in), r.want)
	}
	// What is missing is 0, and what is left over isn't used.
	held(t, "few", model.Tuple(out(), api.Proc{In: []bool{true, false}}, nil), list(t, "0 | 0"))
	held(t, "much", model.Tuple(out(list(t, "1 | 2")...), api.Proc{In: []bool{true, false}}, list(t, "3 | 4")), list(t, "3 | 1"))
}
