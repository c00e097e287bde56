package parse_test

import (
	"reflect"
	"strconv"
	"strings"
	"testing"

	"augur/api"
	"augur/lex"
	"augur/parse"
)

func v(name string) api.Term { return api.Term{Kind: api.TVar, Name: name} }
func n(i int) api.Term       { return api.Term{Kind: api.TInt, Int: i} }
func c(name string, args ...api.Term) api.Term {
	return api.Term{Kind: api.TCtor, Name: name, Args: args}
}

func tv(name string) api.TypeExpr { return api.TypeExpr{Var: true, Name: name} }
func ty(name string, args ...api.TypeExpr) api.TypeExpr {
	return api.TypeExpr{Name: name, Args: args}
}
func ctor(name string, args ...api.TypeExpr) api.CtorDecl {
	return api.CtorDecl{Name: name, Args: args}
}

func yes() api.Goal                { return api.Goal{Kind: api.GTrue} }
func no() api.Goal                 { return api.Goal{Kind: api.GFail} }
func unify(a, b api.Term) api.Goal { return api.Goal{Kind: api.GUnify, A: a, B: b} }
func call(name string, args ...api.Term) api.Goal {
	return api.Goal{Kind: api.GCall, Name: name, Args: args}
}
func and(goals ...api.Goal) api.Goal { return api.Goal{Kind: api.GAnd, Goals: goals} }
func or(goals ...api.Goal) api.Goal  { return api.Goal{Kind: api.GOr, Goals: goals} }
func not(g api.Goal) api.Goal        { return api.Goal{Kind: api.GNot, Goals: []api.Goal{g}} }
func throw(a api.Term) api.Goal      { return api.Goal{Kind: api.GThrow, A: a} }
func try(g api.Goal, name string, h api.Goal) api.Goal {
	return api.Goal{Kind: api.GTry, Name: name, Goals: []api.Goal{g, h}}
}

func typeItem(name string, vars []string, ctors ...api.CtorDecl) api.Item {
	return api.Item{Kind: api.ItemType, Name: name, Vars: vars, Ctors: ctors}
}
func pred(name string, types ...api.TypeExpr) api.Item {
	return api.Item{Kind: api.ItemPred, Name: name, Types: types}
}
func mode(name string, det int, in ...bool) api.Item {
	return api.Item{Kind: api.ItemMode, Name: name, Det: det, In: in}
}
func clause(name string, body api.Goal, args ...api.Term) api.Item {
	return api.Item{Kind: api.ItemClause, Name: name, Args: args, Body: body}
}

// short keeps messages readable when a text is long.
func short(text string) string {
	if len(text) > 300 {
		return strconv.Quote(text[:300]) + ".. (" + strconv.Itoa(len(text)) + " bytes)"
	}
	return strconv.Quote(text)
}

// gives holds what a call returned against what it should return; beside an error that is the zero value.
func gives[T any](t *testing.T, call func(string) (T, error), text string, want T, wantErr error) {
	t.Helper()
	got, err := call(text)
	if err != wantErr {
		t.Errorf("%s: error %v, not %v", short(text), err, wantErr)
	} else if !reflect.DeepEqual(got, want) {
		t.Errorf("%s:\n %+v, not\n %+v", short(text), got, want)
	}
}

// refuses tells that a call must return this error, and nothing else.
func refuses[T any](t *testing.T, call func(string) (T, error), text string, err error) {
	t.Helper()
	var none T
	gives(t, call, text, none, err)
}

// takes tells that a call must return no error.
func takes[T any](t *testing.T, call func(string) (T, error), text string) {
	t.Helper()
	if _, err := call(text); err != nil {
		t.Errorf("%s: error %v", short(text), err)
	}
}

// P2.1: the items, and each of their lines in the grammar.
func TestItems(t *testing.T) {
	for text, want := range map[string]api.Item{
		"type t = a.":                  typeItem("t", nil, ctor("a")),
		"type t = a | b(int, T).":      typeItem("t", nil, ctor("a"), ctor("b", ty("int"), tv("T"))),
		"type t(T) = a | b | c(u).":    typeItem("t", []string{"T"}, ctor("a"), ctor("b"), ctor("c", ty("u"))),
		"type t(T, _, T) = t(t(_)).":   typeItem("t", []string{"T", "_", "T"}, ctor("t", ty("t", tv("_")))),
		"pred p.":                      pred("p"),
		"pred p(int).":                 pred("p", ty("int")),
		"pred p(T, l(T, int), m(_X)).": pred("p", tv("T"), ty("l", tv("T"), ty("int")), ty("m", tv("_X"))),
		"mode p is det.":               mode("p", api.Det),
		"mode p(in) is semidet.":       mode("p", api.Semidet, true),
		"mode p(out) is multi.":        mode("p", api.Multi, false),
		"mode p(in, out, in) is nondet.": mode("p", api.Nondet,
			true, false, true),
		"p.":                 clause("p", yes()),
		"p(X).":              clause("p", yes(), v("X")),
		"p(-5, _, f(X), a).": clause("p", yes(), n(-5), v("_"), c("f", v("X")), c("a")),
		"p :- true.":         clause("p", yes()),
		"p :- q.":            clause("p", call("q")),
		"p(X) :- X = 1 ; q, r.": clause("p",
			or(unify(v("X"), n(1)), and(call("q"), call("r"))), v("X")),
		"p :- (a, b), c.": clause("p", and(and(call("a"), call("b")), call("c"))),
	} {
		gives(t, parse.Source, text, []api.Item{want}, nil)
	}
}

// P2.1: items stand in their order; a text without any has none.
func TestSources(t *testing.T) {
	for _, text := range []string{"", " \n", "% nothing."} {
		gives(t, parse.Source, text, nil, nil)
	}
	gives(t, parse.Source, "p :- q.q.pred q.type t=a.mode q is det.q.", []api.Item{
		clause("p", call("q")), clause("q", yes()), pred("q"), typeItem("t", nil, ctor("a")), mode("q", api.Det), clause("q", yes()),
	}, nil)
	gives(t, parse.Source, `
		type list(T) = nil | cons(T, list(T)).
		pred append(list(T), list(T), list(T)).
		mode append(in, in, out) is det.
		append(nil, Y, Y).
		append(cons(H, T), Y, cons(H, Z)) :- append(T, Y, Z).`, []api.Item{
		typeItem("list", []string{"T"}, ctor("nil"), ctor("cons", tv("T"), ty("list", tv("T")))),
		pred("append", ty("list", tv("T")), ty("list", tv("T")), ty("list", tv("T"))),
		mode("append", api.Det, true, true, false),
		clause("append", yes(), c("nil"), v("Y"), v("Y")),
		clause("append", call("append", v("T"), v("Y"), v("Z")), c("cons", v("H"), v("T")), v("Y"), c("cons", v("H"), v("Z"))),
	}, nil)
}

// P2.1: the goals, and how they bind.
func TestGoals(t *testing.T) {
	a, b, d := call("a"), call("b"), call("d")
	for text, want := range map[string]api.Goal{
		"true": yes(), "fail": no(), "a": a, "(a)": a, "(((a)))": a, "(true)": yes(),
		"a(X, 1, f(a))": call("a", v("X"), n(1), c("f", c("a"))),
		"X = Y":         unify(v("X"), v("Y")),
		"X = 1":         unify(v("X"), n(1)),
		"1 = X":         unify(n(1), v("X")),
		"-1 = -1":       unify(n(-1), n(-1)),
		"a = b":         unify(c("a"), c("b")),
		"f(X) = g(f(_))": unify(
			c("f", v("X")), c("g", c("f", v("_")))),
		"a, b": and(a, b), "a, b, d": and(a, b, d), "(a, b), d": and(and(a, b), d), "a, (b, d)": and(a, and(b, d)),
		"(a, b, d)": and(a, b, d), "(a), (b)": and(a, b),
		"a ; b": or(a, b), "a ; b ; d": or(a, b, d), "(a ; b) ; d": or(or(a, b), d), "a ; (b ; d)": or(a, or(b, d)),
		"a, b ; d": or(and(a, b), d), "a ; b, d": or(a, and(b, d)), "a, (b ; d)": and(a, or(b, d)), "(a ; b), d": and(or(a, b), d),
		"a, b ; b, d ; d": or(and(a, b), and(b, d), d),
		"not a":           not(a), "not not a": not(not(a)), "not a, b": and(not(a), b), "not a ; b": or(not(a), b),
		"not (a, b)": not(and(a, b)), "not (a ; b)": not(or(a, b)), "not (a)": not(a),
		"not X = 1": not(unify(v("X"), n(1))), "not true": not(yes()), "not throw 1": not(throw(n(1))),
		"throw X": throw(v("X")), "throw 3": throw(n(3)), "throw f(X)": throw(c("f", v("X"))), "throw 1, a": and(throw(n(1)), a),
		"try a catch E then b":                    try(a, "E", b),
		"try a catch _ then b, d":                 and(try(a, "_", b), d),
		"try a catch E then b ; d":                or(try(a, "E", b), d),
		"try (a, b) catch E then (a ; d)":         try(and(a, b), "E", or(a, d)),
		"try not a catch E then not b":            try(not(a), "E", not(b)),
		"try X = 1 catch E then E = f":            try(unify(v("X"), n(1)), "E", unify(v("E"), c("f"))),
		"try (a, b) catch E then not d":           try(and(a, b), "E", not(d)),
		"try throw 1 catch E then throw E":        try(throw(n(1)), "E", throw(v("E"))),
		"not try a catch E then b":                not(try(a, "E", b)),
		"try true catch E then fail":              try(yes(), "E", no()),
		"try try a catch E then b catch F then d": try(try(a, "E", b), "F", d),
		"try a catch E then try b catch F then d": try(a, "E", try(b, "F", d)),
	} {
		gives(t, parse.Goal, text, want, nil)
		gives(t, parse.Source, "p(X) :- "+text+".", []api.Item{clause("p", want, v("X"))}, nil)
	}
}

// P2.1: the terms and the types.
func TestTermsAndTypes(t *testing.T) {
	for text, want := range map[string]api.Term{
		"X": v("X"), "_": v("_"), "_Ab9": v("_Ab9"), "0": n(0), "-7": n(-7),
		"9223372036854775807": n(1<<63 - 1), "-9223372036854775808": n(-1 << 63),
		"a": c("a"), "a(X)": c("a", v("X")), "a(1, b, c(X, 2))": c("a", n(1), c("b"), c("c", v("X"), n(2))),
		"a(b(c(d)))": c("a", c("b", c("c", c("d")))),
	} {
		gives(t, parse.Term, text, want, nil)
	}
	for text, want := range map[string]api.TypeExpr{
		"T": tv("T"), "_": tv("_"), "int": ty("int"), "t": ty("t"), "t(T)": ty("t", tv("T")),
		"t(int, u(int), _)": ty("t", ty("int"), ty("u", ty("int")), tv("_")),
		"ints":              ty("ints"),
	} {
		gives(t, parse.Type, text, want, nil)
	}
}

// P2.1: what is near to the grammar, and not in it.
func TestSyntaxErrors(t *testing.T) {
	for _, text := range []string{
		"p", ".", "p..", "p :- .", "p :- X.", "p :- 5.", "p :- q", "p q.", "p().", "p(X.", "p X).", "p((X)).", "p(X) = q.", "X.", "5.", "(p).",
		"p(X,).", "p(,X).", "p(X Y).", "p(X ; Y).", "p | q.", "p :- q :- r.", "p = q.", ":- p.", "p :- q.r", "p, q.", "P(X).",
		"type t.", "type t =.", "type t = a |.", "type t = | a.", "type t = a, b.", "type t = T.", "type t = 1.", "type T = a.",
		"type t() = a.", "type t(int) = a.", "type t(u) = a.", "type t(T(U)) = a.", "type t = a().", "type t = a(1).", "type t = a(T(U)).",
		"type t = (a).", "type t = int.", "type = a.", "type t a.", "type t = a = b.", "type t = a :- b.",
		"pred.", "pred P.", "pred p().", "pred p(1).", "pred p(int(T)).", "pred p(T(U)).", "pred p(in).", "pred p is det.", "pred p = q.", "pred p, q.",
		"mode p.", "mode p is.", "mode is det.", "mode p(in).", "mode p() is det.", "mode p(int) is det.", "mode p(X) is det.", "mode p(In) is det.",
		"mode p(in out) is det.", "mode p(in(in)) is det.", "mode p is Det.", "mode p is failure.", "mode p is in.", "mode p is det det.", "mode p = det.", "mode p(in) det.",
	} {
		refuses(t, parse.Source, text, api.ErrSyntax)
	}
	for _, text := range []string{
		"", ".", "a.", "X", "5", "(X)", "()", "a b", "a,", ", a", "a ; ", "; a", "a ;; b", "a | b", "(a", "a)", "(a))", "not", "not X", "not 5", "not ()",
		"throw", "throw (X)", "throw true", "throw not a", "throw X = 1", "X =", "= X", "X = Y = Z", "X = (Y)", "(X) = Y", "X = true", "true = X", "fail(X)", "true(X)",
		"(a) = b", "not(a) = b", "try a", "try a catch", "try a catch E", "try a catch E then", "try a then b", "try catch E then b", "try a catch e then b",
		"try a catch 5 then b", "try a catch E b", "try a E then b", "try a, b catch E then d", "try a catch E, F then b", "try X catch E then b", "catch E then b", "a :- b", "a(b = c)", "X(a)",
	} {
		refuses(t, parse.Goal, text, api.ErrSyntax)
	}
	for _, text := range []string{
		"", ".", "X.", "a b", "(a)", "a()", "a(", "a)", "X(a)", "5(a)", "a(b)(c)", "a, b", "a = b", "a;b", "a|b", ":-", "not a", "int", "a(int)", "a(true)", "a(b,)", "a(,)",
	} {
		refuses(t, parse.Term, text, api.ErrSyntax)
	}
	for _, text := range []string{
		"", ".", "T.", "5", "t(5)", "t u", "(t)", "t()", "t(", "t)", "T(U)", "int(T)", "int int", "t(u)(v)", "t, u", "t | u", "type", "in", "t(out)", "t(true)", "t(u,)", "det",
	} {
		refuses(t, parse.Type, text, api.ErrSyntax)
	}
}

// P2.1: a reserved name is no name of the source's own, in no place; other names are.
func TestReservedNames(t *testing.T) {
	words := strings.Fields("type pred mode is det semidet multi nondet in out true fail not throw try catch then int")
	for _, word := range words {
		for _, frame := range []string{
			"type N = a.", "type t = N.", "type t = N(T).", "type t = a | N.", "type t = a(N(T)).", "pred N.", "pred N(T).", "pred p(N(T)).", "mode N is det.", "mode N(in) is det.",
			"N.", "N(X).", "N(X) :- q.", "p(N).", "p(N(X)).", "p(f(N)).", "p :- N = X.", "p :- X = N.", "p :- X = f(N).", "p :- N(X).", "p :- q(N).", "p :- throw N.", "p :- N(X) = a.",
		} {
			refuses(t, parse.Source, strings.Replace(frame, "N", word, 1), api.ErrSyntax)
		}
		refuses(t, parse.Term, word, api.ErrSyntax)
		// As a type, only int; as a goal, only those two.
		if word != "int" {
			refuses(t, parse.Type, word, api.ErrSyntax)
			refuses(t, parse.Source, "pred p("+word+").", api.ErrSyntax)
			refuses(t, parse.Source, "type t = a("+word+").", api.ErrSyntax)
		}
		if word != "true" && word != "fail" {
			refuses(t, parse.Goal, word, api.ErrSyntax)
		}
		if word != "in" && word != "out" {
			refuses(t, parse.Source, "mode p("+word+") is det.", api.ErrSyntax)
		}
		if word != "det" && word != "semidet" && word != "multi" && word != "nondet" {
			refuses(t, parse.Source, "mode p is "+word+".", api.ErrSyntax)
		}
	}
	for _, word := range words {
		for _, other := range []string{word + "s", word + "_", "x" + word, word + "1"} {
			if lex.Reserved(other) {
				t.Fatal(other)
			}
			gives(t, parse.Source, "type "+other+" = "+other+"("+other+"). pred "+other+". mode "+other+" is det. "+other+"("+other+") :- "+other+", X = "+other+".", []api.Item{
				typeItem(other, nil, ctor(other, ty(other))), pred(other), mode(other, api.Det),
				clause(other, and(call(other), unify(v("X"), c(other))), c(other)),
			}, nil)
		}
		upper := strings.ToUpper(word[:1]) + word[1:]
		gives(t, parse.Term, upper, v(upper), nil)
	}
}

// P2.1: what layer 1 refuses is refused with its error, wherever it stands, whatever else is wrong ahead of it.
func TestTokensFirst(t *testing.T) {
	for _, fault := range []string{"?", "05", "-0", "-", "5x", ":", "é", "9223372036854775808", strings.Repeat("a", api.MaxName+1), strings.Repeat("A", api.MaxName+1), "\x00"} {
		for _, ahead := range []string{"", "p. ", "p( ", ") . ( ", "p :- X. ", nested(api.MaxNest+5, "f(", "a", ")"), "f(1,1,1,1,1,1,1,1,1,1) ", strings.Repeat("p.", api.MaxItems+1)} {
			text := ahead + " " + fault
			refuses(t, parse.Source, text, api.ErrText)
			refuses(t, parse.Term, text, api.ErrText)
			refuses(t, parse.Goal, text, api.ErrText)
			refuses(t, parse.Type, text, api.ErrText)
		}
	}
	full := "p." + strings.Repeat(" ", api.MaxSource-2)
	gives(t, parse.Source, full, []api.Item{clause("p", yes())}, nil)
	for _, text := range []string{full + " ", full + "?", full + ")", "?" + full, strings.Repeat(" ", api.MaxSource+1)} {
		refuses(t, parse.Source, text, api.ErrLarge)
		refuses(t, parse.Term, text, api.ErrLarge)
		refuses(t, parse.Goal, text, api.ErrLarge)
		refuses(t, parse.Type, text, api.ErrLarge)
	}
	longest := strings.Repeat("n", api.MaxName)
	gives(t, parse.Source, longest+".", []api.Item{clause(longest, yes())}, nil)
}
