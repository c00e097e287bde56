package print_test

import (
	"math"
	"strconv"
	"strings"
	"testing"

	"augur/api"
	"augur/print"
)

func variable(name string, args ...api.Term) api.Term {
	return api.Term{Kind: api.TVar, Name: name, Args: args}
}

func number(i int, args ...api.Term) api.Term {
	return api.Term{Kind: api.TInt, Int: i, Args: args}
}

func made(name string, args ...api.Term) api.Term {
	return api.Term{Kind: api.TCtor, Name: name, Args: args}
}

func someType(name string, args ...api.TypeExpr) api.TypeExpr {
	return api.TypeExpr{Name: name, Args: args}
}

func typeVar(name string, args ...api.TypeExpr) api.TypeExpr {
	return api.TypeExpr{Var: true, Name: name, Args: args}
}

func call(name string, args ...api.Term) api.Goal {
	return api.Goal{Kind: api.GCall, Name: name, Args: args}
}

// of is a goal of this Kind with goals in it.
func of(kind int, goals ...api.Goal) api.Goal {
	return api.Goal{Kind: kind, Goals: goals}
}

func try(name string, goals ...api.Goal) api.Goal {
	return api.Goal{Kind: api.GTry, Name: name, Goals: goals}
}

func clause(name string, body api.Goal, args ...api.Term) api.Item {
	return api.Item{Kind: api.ItemClause, Name: name, Args: args, Body: body}
}

// short keeps messages readable when a text is long.
func short(text string) string {
	if len(text) > 300 {
		return strconv.Quote(text[:300]) + ".. (" + strconv.Itoa(len(text)) + " bytes)"
	}
	return strconv.Quote(text)
}

// same holds a form against what it should be.
func same(t *testing.T, got, want string) {
	t.Helper()
	if got != want {
		t.Errorf("printed %s, not %s", short(got), short(want))
	}
}

var otherKinds = []int{0, -1, 10, 11, 255, 256, math.MaxInt, math.MinInt}

// P3.1: terms, with and without arguments, also those that no parser makes.
func TestTerms(t *testing.T) {
	for _, c := range []struct {
		term api.Term
		want string
	}{
		{variable("X"), "X"},
		{variable("_"), "_"},
		{made("a"), "a"},
		{made("nil", []api.Term{}...), "nil"},
		{made("f", variable("X")), "f(X)"},
		{made("f", variable("X"), number(-3), made("a")), "f(X, -3, a)"},
		{made("f", made("g", made("h")), made("g", number(0), variable("_Y"))), "f(g(h), g(0, _Y))"},
		{variable("X", made("a")), "X(a)"},
		{variable("X", variable("Y", number(1), number(2))), "X(Y(1, 2))"},
		{number(7, number(-8), made("a", number(9))), "7(-8, a(9))"},
		{made(""), ""},
		{made("", made("")), "()"},
		{made("", made(""), made("")), "(, )"},
		{made("not"), "not"},
		{made("Up(a).%é\n\x00\xff", variable("low down")), "Up(a).%é\n\x00\xff(low down)"},
		{api.Term{Kind: api.TVar, Name: "X", Int: 5}, "X"},
		{api.Term{Kind: api.TCtor, Name: "a", Int: 5}, "a"},
		{api.Term{Kind: api.TInt, Name: "a", Int: 5}, "5"},
		{api.Term{}, ""},
	} {
		same(t, print.Term(c.term), c.want)
	}
	for _, kind := range append([]int{4, 5}, otherKinds...) {
		same(t, print.Term(api.Term{Kind: kind, Name: "n", Int: 5}), "n")
		same(t, print.Term(api.Term{Kind: kind, Name: "n", Args: []api.Term{number(1), {Kind: kind, Name: "m"}}}), "n(1, m)")
		same(t, print.Term(made("f", api.Term{Kind: kind, Name: "n", Int: 5})), "f(n)")
	}
}

// P3.1: ints are in decimal digits, from one end of their range to the other.
func TestInts(t *testing.T) {
	for i, want := range map[int]string{
		0: "0", 1: "1", -1: "-1", 9: "9", 10: "10", -10: "-10", 100: "100", 65536: "65536", -1000000: "-1000000",
		math.MaxInt32: "2147483647", math.MaxInt32 + 1: "2147483648", math.MinInt32: "-2147483648", math.MinInt32 - 1: "-2147483649",
		math.MaxInt: "9223372036854775807", math.MinInt: "-9223372036854775808",
		math.MaxInt - 1: "9223372036854775806", math.MinInt + 1: "-9223372036854775807",
	} {
		same(t, print.Term(number(i)), want)
		same(t, print.Term(made("f", number(i), number(i))), "f("+want+", "+want+")")
		same(t, print.Goal(api.Goal{Kind: api.GUnify, A: number(i), B: number(i)}), want+" = "+want)
		same(t, print.Goal(api.Goal{Kind: api.GThrow, A: number(i)}), "throw "+want)
		same(t, print.Goal(call("q", number(i))), "q("+want+")")
		same(t, print.Item(clause("p", of(api.GTrue), number(i))), "p("+want+").\n")
	}
}

// P3.1: types, with and without arguments, also those that no parser makes.
func TestTypes(t *testing.T) {
	for _, c := range []struct {
		expr api.TypeExpr
		want string
	}{
		{someType("int"), "int"},
		{typeVar("T"), "T"},
		{someType("u"), "u"},
		{someType("list", typeVar("T")), "list(T)"},
		{someType("map", someType("int"), someType("list", someType("list", typeVar("_")))), "map(int, list(list(_)))"},
		{someType("three", typeVar("A"), typeVar("B"), typeVar("A")), "three(A, B, A)"},
		{typeVar("T", someType("int")), "T(int)"},
		{someType("int", someType("int"), typeVar("T", typeVar("U"))), "int(int, T(U))"},
		{typeVar("low"), "low"},
		{someType("Up"), "Up"},
		{someType("pred %\n"), "pred %\n"},
		{someType("", someType(""), typeVar("")), "(, )"},
		{api.TypeExpr{}, ""},
	} {
		same(t, print.Type(c.expr), c.want)
	}
}

// P3.1: goals of each Kind; what does not belong to the Kind is not printed.
func TestGoals(t *testing.T) {
	full := func(kind int) api.Goal {
		return api.Goal{Kind: kind, A: variable("A"), B: made("b", number(1)), Name: "n", Args: []api.Term{made("x"), variable("Y")},
			Goals: []api.Goal{call("r"), call("s"), call("t")}}
	}
	for kind, want := range map[int]string{
		api.GTrue: "true", api.GFail: "fail", api.GUnify: "A = b(1)", api.GCall: "n(x, Y)", api.GAnd: "r, s, t", api.GOr: "r ; s ; t",
		api.GNot: "not r", api.GThrow: "throw A", api.GTry: "try r catch n then s",
	} {
		same(t, print.Goal(full(kind)), want)
	}
	for _, kind := range otherKinds {
		same(t, print.Goal(full(kind)), "")
		same(t, print.Goal(of(api.GAnd, call("q"), full(kind), call("r"))), "q, , r")
		same(t, print.Goal(of(api.GOr, full(kind), full(kind))), " ; ")
		same(t, print.Goal(of(api.GNot, full(kind))), "not ")
		same(t, print.Goal(try("E", full(kind), full(kind))), "try  catch E then ")
		same(t, print.Item(clause("p", full(kind))), "p :- .\n")
	}
	for _, c := range []struct {
		goal api.Goal
		want string
	}{
		{of(api.GTrue), "true"},
		{of(api.GFail), "fail"},
		{call("q"), "q"},
		{call("q", number(-1), made("f", variable("X")), variable("_")), "q(-1, f(X), _)"},
		{call("fail"), "fail"},
		{call("X", made("a")), "X(a)"},
		{call(""), ""},
		{api.Goal{Kind: api.GUnify}, " = "},
		{api.Goal{Kind: api.GUnify, A: made("f", variable("X")), B: made("g", number(2), made("a"))}, "f(X) = g(2, a)"},
		{api.Goal{Kind: api.GThrow}, "throw "},
		{api.Goal{Kind: api.GThrow, A: made("f", variable("X"), number(-4))}, "throw f(X, -4)"},
		{api.Goal{}, ""},
	} {
		same(t, print.Goal(c.goal), c.want)
	}
}

// P3.1: goals that are missing are omitted, those in excess too, and a row of one goal is a row.
func TestMissingGoals(t *testing.T) {
	q, r, s := call("q"), call("r"), call("s")
	for _, c := range []struct {
		goal api.Goal
		want string
	}{
		{of(api.GAnd), ""},
		{of(api.GOr), ""},
		{of(api.GNot), "not "},
		{try("E"), "try  catch E then "},
		{try(""), "try  catch  then "},
		{try("E", q), "try q catch E then "},
		{try("E", of(api.GOr, q, r)), "try (q ; r) catch E then "},
		{try("E", q, r, s), "try q catch E then r"},
		{of(api.GNot, q, r), "not q"},
		{of(api.GNot, of(api.GNot)), "not not "},
		{of(api.GAnd, q), "q"},
		{of(api.GOr, q), "q"},
		{of(api.GAnd, of(api.GAnd)), "()"},
		{of(api.GAnd, of(api.GAnd, q)), "(q)"},
		{of(api.GAnd, of(api.GOr, q)), "(q)"},
		{of(api.GOr, of(api.GOr)), "()"},
		{of(api.GOr, of(api.GOr, q)), "(q)"},
		{of(api.GOr, of(api.GAnd)), ""},
		{of(api.GOr, of(api.GAnd, q)), "q"},
		{of(api.GOr, of(api.GAnd), of(api.GAnd)), " ; "},
		{of(api.GAnd, of(api.GOr), of(api.GAnd)), "(), ()"},
		{of(api.GNot, of(api.GAnd)), "not ()"},
		{of(api.GNot, of(api.GOr)), "not ()"},
		{of(api.GNot, of(api.GAnd, q)), "not (q)"},
		{try("E", of(api.GAnd), of(api.GOr, q)), "try () catch E then (q)"},
		{of(api.GOr, of(api.GAnd, of(api.GOr, of(api.GAnd, of(api.GOr))))), "(())"},
	} {
		same(t, print.Goal(c.goal), c.want)
	}
}

// P3.1: where parentheses stand: for each Kind of goal within each other Kind.
func TestParentheses(t *testing.T) {
	inner := map[string]api.Goal{
		"true": of(api.GTrue), "fail": of(api.GFail), "X = 1": {Kind: api.GUnify, A: variable("X"), B: number(1)}, "q": call("q"), "q(X)": call("q", variable("X")),
		"not q": of(api.GNot, call("q")), "throw 1": {Kind: api.GThrow, A: number(1)}, "try q catch E then r": try("E", call("q"), call("r")),
		"q, r": of(api.GAnd, call("q"), call("r")), "q ; r": of(api.GOr, call("q"), call("r")),
	}
	for text, g := range inner {
		within := text
		if g.Kind == api.GAnd || g.Kind == api.GOr {
			within = "(" + text + ")"
		}
		option := text
		if g.Kind == api.GOr {
			option = within
		}
		same(t, print.Goal(g), text)
		same(t, print.Goal(of(api.GNot, g)), "not "+within)
		same(t, print.Goal(try("E", g, call("s"))), "try "+within+" catch E then s")
		same(t, print.Goal(try("E", call("s"), g)), "try s catch E then "+within)
		same(t, print.Goal(try("E", g, g)), "try "+within+" catch E then "+within)
		same(t, print.Goal(of(api.GAnd, g, call("s"))), within+", s")
		same(t, print.Goal(of(api.GAnd, call("s"), g)), "s, "+within)
		same(t, print.Goal(of(api.GAnd, call("s"), g, g, call("s"))), "s, "+within+", "+within+", s")
		same(t, print.Goal(of(api.GOr, g, call("s"))), option+" ; s")
		same(t, print.Goal(of(api.GOr, call("s"), g)), "s ; "+option)
		same(t, print.Goal(of(api.GOr, call("s"), g, g, call("s"))), "s ; "+option+" ; "+option+" ; s")
		same(t, print.Goal(of(api.GNot, of(api.GNot, g))), "not not "+within)
		same(t, print.Goal(of(api.GOr, call("s"), of(api.GAnd, g, call("s")))), "s ; "+within+", s")
		same(t, print.Goal(of(api.GAnd, call("s"), of(api.GOr, g, call("s")))), "s, ("+option+" ; s)")
		same(t, print.Goal(of(api.GNot, of(api.GOr, g, of(api.GAnd, g, g)))), "not ("+option+" ; "+within+", "+within+")")
		if text != "true" {
			same(t, print.Item(clause("p", g)), "p :- "+text+".\n")
		}
	}
}

// P3.1: items of each Kind; what does not belong to the Kind is not printed.
func TestItems(t *testing.T) {
	full := func(kind int) api.Item {
		return api.Item{Kind: kind, Name: "n", Vars: []string{"V", "W"}, Types: []api.TypeExpr{someType("int"), typeVar("T")}, In: []bool{true, false, true}, Det: api.Multi,
			Ctors: []api.CtorDecl{{Name: "c"}, {Name: "d", Args: []api.TypeExpr{someType("int"), someType("l", typeVar("V"))}}}, Args: []api.Term{number(1), variable("X")}, Body: call("q")}
	}
	for kind, want := range map[int]string{
		api.ItemType: "type n(V, W) = c | d(int, l(V)).\n", api.ItemPred: "pred n(int, T).\n", api.ItemMode: "mode n(in, out, in) is multi.\n", api.ItemClause: "n(1, X) :- q.\n",
	} {
		same(t, print.Item(full(kind)), want)
		same(t, print.Source([]api.Item{full(kind)}), want)
		same(t, print.Source([]api.Item{{}, full(kind), full(kind)}), ".\n"+want+want)
	}
	for _, kind := range append([]int{5, 6}, otherKinds...) {
		same(t, print.Item(full(kind)), ".\n")
	}
	ctors := func(names ...string) []api.CtorDecl {
		var list []api.CtorDecl
		for _, name := range names {
			list = append(list, api.CtorDecl{Name: name})
		}
		return list
	}
	for _, c := range []struct {
		item api.Item
		want string
	}{
		{api.Item{Kind: api.ItemType, Name: "t", Ctors: ctors("a")}, "type t = a.\n"},
		{api.Item{Kind: api.ItemType, Name: "t", Ctors: ctors("a", "b", "c")}, "type t = a | b | c.\n"},
		{api.Item{Kind: api.ItemType, Name: "t"}, "type t = .\n"},
		{api.Item{Kind: api.ItemType}, "type  = .\n"},
		{api.Item{Kind: api.ItemType, Name: "t", Vars: []string{"T"}, Ctors: ctors("")}, "type t(T) = .\n"},
		{api.Item{Kind: api.ItemType, Name: "t", Vars: []string{""}, Ctors: ctors("", "")}, "type t() =  | .\n"},
		{api.Item{Kind: api.ItemPred, Name: "p"}, "pred p.\n"},
		{api.Item{Kind: api.ItemPred, Name: "p", Types: []api.TypeExpr{someType("l", someType("l", typeVar("T")))}}, "pred p(l(l(T))).\n"},
		{api.Item{Kind: api.ItemPred}, "pred .\n"},
		{clause("p", of(api.GTrue)), "p.\n"},
		{clause("p", of(api.GTrue, call("q")), made("a")), "p(a).\n"},
		{clause("p", of(api.GFail)), "p :- fail.\n"},
		{clause("p", of(api.GAnd, of(api.GTrue))), "p :- true.\n"},
		{clause("p", of(api.GOr, of(api.GAnd, call("q"), call("r")), call("s")), variable("X")), "p(X) :- q, r ; s.\n"},
		{clause("", of(api.GTrue)), ".\n"},
		{clause("p", api.Goal{}), "p :- .\n"},
		{api.Item{Kind: api.ItemClause}, " :- .\n"},
		{api.Item{}, ".\n"},
	} {
		same(t, print.Item(c.item), c.want)
	}
}

// P3.1: modes: their ways, and the word of each Det; another Det has none.
func TestModes(t *testing.T) {
	for det, word := range map[int]string{
		api.Det: "det", api.Semidet: "semidet", api.Multi: "multi", api.Nondet: "nondet",
		0: "", -1: "", 5: "", 6: "", 257: "", math.MaxInt: "", math.MinInt: "",
	} {
		for ways, in := range map[string][]bool{
			"": {}, "(in)": {true}, "(out)": {false}, "(in, in)": {true, true}, "(out, out, in)": {false, false, true}, "(in, out)": {true, false},
		} {
			same(t, print.Item(api.Item{Kind: api.ItemMode, Name: "p", In: in, Det: det}), "mode p"+ways+" is "+word+".\n")
		}
	}
}

// P3.1: a source is its items' forms, one behind the other; no items at all have no form.
func TestSources(t *testing.T) {
	same(t, print.Source(nil), "")
	same(t, print.Source([]api.Item{}), "")
	var items []api.Item
	for i := range 2 * api.MaxItems {
		same(t, print.Source(items), strings.Repeat("p.\n.\n", i/2)+strings.Repeat("p.\n", i%2))
		items = append(items, []api.Item{clause("p", of(api.GTrue)), {}}[i%2])
	}
	same(t, print.Source([]api.Item{
		{Kind: api.ItemType, Name: "t", Ctors: []api.CtorDecl{{Name: "a"}}}, {Kind: api.ItemPred, Name: "p", Types: []api.TypeExpr{someType("t")}},
		{Kind: api.ItemMode, Name: "p", In: []bool{true}, Det: api.Semidet}, clause("p", of(api.GTrue), made("a")),
	}), "type t = a.\npred p(t).\nmode p(in) is semidet.\np(a).\n")
}
