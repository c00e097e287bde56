package parse_test

import (
	"strings"
	"testing"

	"augur/api"
	"augur/lex"
	"augur/parse"
)

// nested is a text with depth times the opening, the core, and depth times the closing.
func nested(depth int, open, core, shut string) string {
	return strings.Repeat(open, depth) + core + strings.Repeat(shut, depth)
}

// rowOf is the same element count times, with commas.
func rowOf(count int, element string) string {
	return strings.TrimSuffix(strings.Repeat(element+",", count), ",")
}

// P2.1: item number MaxItems + 1 is too many as soon as it begins, whatever it is; at the end none begins.
func TestMostItems(t *testing.T) {
	full := strings.Repeat("p.", api.MaxItems)
	items, err := parse.Source(full)
	if err != nil || len(items) != api.MaxItems {
		t.Fatal(len(items), err)
	}
	takes(t, parse.Source, full+" % p.")
	for _, last := range []string{"p.", "q(X) :- X = 1.", "type t = a.", "pred p.", "mode p is det."} {
		takes(t, parse.Source, full[2:]+last)
		refuses(t, parse.Source, full[2:]+last+last, api.ErrLarge)
	}
	for _, more := range []string{"p.", "p", "q(X) :- X = 1.", "type t = a.", "pred p.", "mode p is det.", ".", ")", "5", "is", "type", ":-", "X"} {
		refuses(t, parse.Source, full+more, api.ErrLarge)
	}
	refuses(t, parse.Source, full[:len(full)-1], api.ErrSyntax)
	refuses(t, parse.Source, full[:len(full)-1]+" p.", api.ErrSyntax)
	refuses(t, parse.Source, full[:len(full)-2]+"p)", api.ErrSyntax)
}

// listFrames are texts with a list in parentheses at L, and what its elements may be.
var listFrames = []struct{ frame, elements string }{
	{"type t(L) = a.", "T _"},
	{"type t = a(L).", "int T u u(T)"},
	{"type t = a | b(L).", "int T u u(T)"},
	{"type t = a(u(L)).", "int T u u(T)"},
	{"pred p(L).", "int T u u(T)"},
	{"pred p(u(int, v(L))).", "int T u u(T)"},
	{"mode p(L) is det.", "in out"},
	{"p(L).", "X _ 1 a f(X)"},
	{"p(L) :- q.", "X _ 1 a f(X)"},
	{"p(f(L)).", "X _ 1 a f(X)"},
	{"p :- q(L).", "X _ 1 a f(X)"},
	{"p :- q(X, f(L)).", "X _ 1 a f(X)"},
	{"p :- f(L) = X.", "X _ 1 a f(X)"},
	{"p :- X = f(L).", "X _ 1 a f(X)"},
	{"p :- throw f(L).", "X _ 1 a f(X)"},
	{"p :- not q(L).", "X _ 1 a f(X)"},
	{"p :- try q(L) catch E then r.", "X _ 1 a f(X)"},
	{"p :- (try q catch E then (r ; s(L))).", "X _ 1 a f(X)"},
}

// P2.1: element number MaxArity + 1 of a list in parentheses is too many as soon as it begins, whatever it is.
func TestMostElements(t *testing.T) {
	for _, f := range listFrames {
		for _, element := range strings.Fields(f.elements) {
			with := func(list string) string { return strings.Replace(f.frame, "L", list, 1) }
			full := rowOf(api.MaxArity, element)
			takes(t, parse.Source, with(element))
			takes(t, parse.Source, with(full))
			for _, more := range []string{element, "X", "f", "5", "in", "int", ")", "),", "(", ",", ".", ":-", "then", element + "," + element, "f(1,2,3,4,5,6,7,8,9)"} {
				refuses(t, parse.Source, with(full+","+more), api.ErrLarge)
			}
			refuses(t, parse.Source, with(full+" "+element), api.ErrSyntax)
			before, _, _ := strings.Cut(f.frame, "L")
			refuses(t, parse.Source, before+full, api.ErrSyntax)
			refuses(t, parse.Source, before+full+",", api.ErrSyntax)
			refuses(t, parse.Source, before+full+",% "+element, api.ErrSyntax)
			refuses(t, parse.Source, before+full+","+element, api.ErrLarge)
		}
	}
	refuses(t, parse.Term, "f("+rowOf(9, "1")+")", api.ErrLarge)
	refuses(t, parse.Type, "t("+rowOf(9, "T")+")", api.ErrLarge)
	refuses(t, parse.Goal, "q("+rowOf(9, "1")+")", api.ErrLarge)
	takes(t, parse.Term, "f("+rowOf(8, "f("+rowOf(8, "1")+")")+")")
}

// P2.1: constructors and goals may be more than MaxArity, in parentheses too.
func TestLongRows(t *testing.T) {
	items, err := parse.Source("type t = " + strings.Repeat("a | ", 2000) + "b.")
	if err != nil || len(items) != 1 || len(items[0].Ctors) != 2001 {
		t.Error(err)
	}
	for _, frame := range []string{"R", "(R)", "not (R)", "try (R) catch E then q"} {
		for _, mark := range []string{",", ";"} {
			takes(t, parse.Goal, strings.Replace(frame, "R", strings.Repeat("p"+mark, 5000)+"p", 1))
		}
	}
	goal, err := parse.Goal(strings.Repeat("p,", api.MaxSource/2-1) + "qq")
	if err != nil || len(goal.Goals) != api.MaxSource/2 {
		t.Error(len(goal.Goals), err)
	}
}

// The texts by depth whose deepest part has the nest that the depth tells: with MaxNest they are taken, with one more not.
func deepest(depth int) map[string]string {
	d := depth - 1 // how many there are around the deepest
	return map[string]string{
		// terms in a clause's head: the first has the nest 1
		"head, atom": "p(" + nested(d, "f(", "a", ")") + ").",
		"head, var":  "p(" + nested(d, "f(", "X", ")") + ").",
		"head, int":  "p(" + nested(d, "f(", "1", ")") + ").",
		"head, last": "p(X, " + nested(d, "f(1, ", "a", ")") + ").",
		// types: the first has the nest 1
		"pred, var":  "pred p(" + nested(d, "l(", "T", ")") + ").",
		"pred, int":  "pred p(" + nested(d, "l(", "int", ")") + ").",
		"pred, name": "pred p(int, " + nested(d, "l(T, ", "t", ")") + ").",
		"type":       "type t = a | b(T, " + nested(d, "l(", "int", ")") + ").",
		// prims: the first has the nest 1
		"parentheses, true":    "p :- " + nested(d, "(", "true", ")") + ".",
		"parentheses, fail":    "p :- " + nested(d, "(true, ", "fail", " ; fail)") + ".",
		"not, true":            "p :- " + nested(d, "not ", "true", "") + ".",
		"try, first":           "p :- " + nested(d, "try ", "true", " catch E then fail") + ".",
		"try, second":          "p :- " + nested(d, "try true catch E then ", "fail", "") + ".",
		"not and parentheses":  "p :- " + strings.Repeat("(", d%2) + nested(d/2, "not (", "true", ")") + strings.Repeat(")", d%2) + ".",
		"a later conjunct":     "p :- q, " + nested(d, "not ", "true", "") + ", r.",
		"a later disjunct":     "p :- q ; " + nested(d, "(", "true", ")") + " ; r.",
		"after one that ended": "p(f(f(a))) :- ((q)), not not q, try (q) catch E then (q), " + nested(d, "(", "true", ")") + ".",
		// terms of a prim have the nest of it plus 1
		"call":            "p :- " + nested(d-1, "not ", "q", "") + ".",
		"left of =":       "p :- " + nested(d-1, "(", "X = 1", ")") + ".",
		"throw":           "p :- " + nested(d-1, "not ", "throw 1", "") + ".",
		"call's argument": "p :- " + nested(d-2, "(", "q(X)", ")") + ".",
		"left argument":   "p :- " + nested(d-2, "not ", "f(1) = X", "") + ".",
		"right argument":  "p :- " + nested(d-2, "not ", "X = f(1)", "") + ".",
		"throw argument":  "p :- " + nested(d-2, "not ", "throw f(1)", "") + ".",
		"call's depth":    "p :- q(" + nested(d-2, "f(", "X", ")") + ").",
		"left depth":      "p :- " + nested(d-1, "f(", "X", ")") + " = 1.",
		"right depth":     "p :- 1 = " + nested(d-1, "f(", "X", ")") + ".",
		"throw depth":     "p :- throw " + nested(d-1, "f(", "X", ")") + ".",
		"mixed":           "p :- not (try q catch E then q(" + nested(d-5, "f(", "X", ")") + ")).",
	}
}

// P2.1: a nest of MaxNest is taken, one of MaxNest + 1 is not.
func TestDeepestNest(t *testing.T) {
	for name, text := range deepest(api.MaxNest) {
		if _, err := parse.Source(text); err != nil {
			t.Errorf("%s: %v for a nest of MaxNest", name, err)
		}
	}
	for name, text := range deepest(api.MaxNest + 1) {
		if items, err := parse.Source(text); err != api.ErrNest || items != nil {
			t.Errorf("%s: %v for a nest of MaxNest + 1", name, err)
		}
	}
	for _, c := range []struct {
		depth int
		err   error
	}{{api.MaxNest - 1, nil}, {api.MaxNest, api.ErrNest}, {5000, api.ErrNest}} {
		if _, err := parse.Term(nested(c.depth, "f(", "a", ")")); err != c.err {
			t.Errorf("a term within %d: %v", c.depth, err)
		}
		if _, err := parse.Type(nested(c.depth, "t(", "T", ")")); err != c.err {
			t.Errorf("a type within %d: %v", c.depth, err)
		}
		if _, err := parse.Goal(nested(c.depth, "(", "true", ")")); err != c.err {
			t.Errorf("a goal within %d: %v", c.depth, err)
		}
	}
}

// P2.1: what would be nested too deep is so as soon as it begins, whatever it is; at the end none begins.
func TestNestBeginsAtAnyToken(t *testing.T) {
	for _, head := range []string{
		"p(" + strings.Repeat("f(", api.MaxNest),
		"p :- q(" + strings.Repeat("f(", api.MaxNest-2),
		"p :- X = " + strings.Repeat("f(", api.MaxNest-1),
		"p :- " + strings.Repeat("f(", api.MaxNest-1),
		"p :- throw " + strings.Repeat("f(", api.MaxNest-1),
		"p :- " + strings.Repeat("not ", api.MaxNest-1) + "throw ",
		"pred p(" + strings.Repeat("l(", api.MaxNest),
		"type t = c(" + strings.Repeat("l(", api.MaxNest),
		"p :- " + strings.Repeat("(", api.MaxNest),
		"p :- " + strings.Repeat("not ", api.MaxNest),
		"p :- " + strings.Repeat("try ", api.MaxNest),
		"p :- " + strings.Repeat("try q catch E then ", api.MaxNest-2) + "try true catch E then try ",
	} {
		for _, token := range []string{"X", "5", "a", "int", "true", "in", "is", "then", "not", "(", ")", ",", ".", ";", "|", "=", ":-"} {
			refuses(t, parse.Source, head+token, api.ErrNest)
		}
		refuses(t, parse.Source, head, api.ErrSyntax)
		refuses(t, parse.Source, head+" % X", api.ErrSyntax)
	}
	// A prim of the greatest nest may be no more than a word; for anything else a term begins, with one more.
	for _, head := range []string{"p :- " + strings.Repeat("(", api.MaxNest-1), "p :- " + strings.Repeat("not ", api.MaxNest-1)} {
		for _, token := range []string{"X", "5", "a", "int", "in", "is", "then", ")", ",", ".", ";", "|", "=", ":-"} {
			refuses(t, parse.Source, head+token, api.ErrNest)
		}
		for _, token := range []string{"true", "fail", "not", "(", "try", "throw"} {
			refuses(t, parse.Source, head+token, api.ErrSyntax)
		}
	}
}

// P2.1: of two errors at one token the one named first, otherwise the one further left.
func TestWhichErrorFirst(t *testing.T) {
	deep := strings.Repeat("f(", api.MaxNest)                                                // an argument of it in a head is nested too deep
	wide := rowOf(api.MaxArity, "1") + ","                                                   // another element is one too many
	atNest := strings.Repeat("f(", api.MaxNest-1)                                            // an argument of it in a head has the nest MaxNest
	full, almost := strings.Repeat("p.", api.MaxItems), strings.Repeat("p.", api.MaxItems-1) // another item is one too many, or the last
	for _, c := range []struct {
		text string
		err  error
	}{
		// at one token
		{full + ")", api.ErrLarge},
		{full + "is", api.ErrLarge},
		{"p(" + wide + ")", api.ErrLarge},
		{"mode p(" + rowOf(8, "in") + ",int", api.ErrLarge},
		{"type t(" + rowOf(8, "T") + ",t", api.ErrLarge},
		{"p(" + deep + ")", api.ErrNest},
		{"p(" + deep + "is", api.ErrNest},
		{"pred p(" + deep + "5", api.ErrNest},
		{"p :- " + strings.Repeat("(", api.MaxNest) + ".", api.ErrNest},
		// the syntax further left
		{"p q(" + wide + "1).", api.ErrSyntax},
		{"p( , " + deep + "a", api.ErrSyntax},
		{"p. q " + deep, api.ErrSyntax},
		{almost + "p) p.p.p.", api.ErrSyntax},
		{almost + "p p.p.", api.ErrSyntax},
		{"p :- X, " + deep + "a", api.ErrSyntax},
		{"p(" + rowOf(8, "1") + " , in", api.ErrLarge},
		{"p(" + rowOf(7, "1") + " , in , 1", api.ErrSyntax},
		{"p(in, " + wide + "1", api.ErrSyntax},
		{"p(" + atNest + ")", api.ErrSyntax},
		// large further left
		{"p(" + wide + deep + "a", api.ErrLarge},
		{"p(f(" + wide + " is", api.ErrLarge},
		{"p(" + strings.Repeat("f(", api.MaxNest-1) + wide + "a", api.ErrLarge},
		{full + "p(" + deep + "a", api.ErrLarge},
		{full + "p(" + wide + "a", api.ErrLarge},
		// nest further left
		{"p(" + deep + wide + "1", api.ErrNest},
		{"p(" + deep + "X). )", api.ErrNest},
		{"p(" + deep + strings.Repeat(")", api.MaxNest) + "). " + full, api.ErrNest},
		{almost + "p(" + deep + "X) p. p.", api.ErrNest},
		{almost + "p(" + atNest + "f(" + wide, api.ErrNest},
		// within the last item
		{almost + "p(" + wide + "1).", api.ErrLarge},
		{almost + "p(" + atNest + ")", api.ErrSyntax},
	} {
		refuses(t, parse.Source, c.text, c.err)
	}
}

// goodSources have each part of the grammar, with what may be missing missing and there.
var goodSources = []string{
	"p. p(X). p(X, 1). p :- q. p(a, f(X)) :- q(X).",
	"type t = a. type t(T) = a | b(T). type t(T, U) = a(int, l(T, m(U)), V).",
	"pred p. pred p(int). pred p(T, l(T), m(int, n(T))).",
	"mode p is det. mode p(in) is semidet. mode p(in, out) is multi. mode p(out) is nondet.",
	"p :- true. p :- fail, true. p :- fail ; true ; q. p :- q, r ; s, t.",
	"p :- not q. p :- not (q, r). p :- throw X. p :- throw f(X, 1), q.",
	"p :- try q catch E then r. p :- try (q ; r) catch E then not (q, r), q.",
	"p :- X = 1. p :- f(X) = g(Y), 5 = a. p :- (q(X)), ((X = Y)).",
}

// P2.1: where a text ends between two items it is good, and anywhere else a token is missing.
func TestEnds(t *testing.T) {
	for _, text := range goodSources {
		takes(t, parse.Source, text)
		items, last := 0, 0
		for at, tok := range lex.All(text) {
			cut := text[:at]
			if last == '.' || at == 0 {
				if got, err := parse.Source(cut); err != nil || len(got) != items {
					t.Errorf("%q: %d items, %v", cut, len(got), err)
				}
				items++
			} else {
				refuses(t, parse.Source, cut, api.ErrSyntax)
			}
			last = int(tok.Text[0])
		}
	}
	ends := func(refused func(string), text string, good ...string) {
		for at := range lex.All(text) {
			cut := strings.TrimSpace(text[:at])
			fine := false
			for _, g := range good {
				fine = fine || g == cut
			}
			if !fine {
				refused(cut)
			}
		}
	}
	ends(func(cut string) { refuses(t, parse.Term, cut, api.ErrSyntax) }, "f(X, g(1, a))", "f")
	ends(func(cut string) { refuses(t, parse.Type, cut, api.ErrSyntax) }, "l(T, m(int, n))", "l")
	ends(func(cut string) { refuses(t, parse.Goal, cut, api.ErrSyntax) }, "not try throw X catch E then (X = f(1))")
	ends(func(cut string) { refuses(t, parse.Goal, cut, api.ErrSyntax) }, "not (q, r ; s)")
	ends(func(cut string) { refuses(t, parse.Goal, cut, api.ErrSyntax) }, "f(X) = g(1)", "f", "f(X)", "f(X) = g")
}
