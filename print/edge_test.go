package print_test

import (
	"strings"
	"testing"

	"augur/api"
	"augur/parse"
	"augur/print"
)

// P3.2: sources that nest as deep as they may, in each way in which they can.
func TestDeepestAgain(t *testing.T) {
	for _, c := range []struct{ before, open, core, shut, after string }{
		{"p(", "f(", "X", ")", ")."},
		{"p(1, ", "f(g, ", "-1", ", X)", ", 2)."},
		{"p :- q(", "f(", "a", ")", ")."},
		{"p :- X = ", "f(", "a", ")", "."},
		{"p :- ", "f(", "a", ")", " = X."},
		{"p :- throw ", "f(", "a", ")", "."},
		{"p :- not q(", "f(", "a", ")", ")."},
		{"pred p(", "l(", "int", ")", ")."},
		{"pred p(T, ", "l(T, ", "T", ", int)", ", T)."},
		{"type t = a | b(", "l(", "int", ")", ") | c."},
		{"p :- ", "(", "q", ")", "."},
		{"p :- ", "(a, (b ; ", "q", "))", "."},
		{"p :- ", "(a, (", "b, q", "), c)", "."},
		{"p :- a, ", "(b, ", "true", ")", "."},
		{"p :- ", "(", "a ; b", " ; c)", "."},
		{"p :- r ; ", "(a ; ", "q", ")", "."},
		{"p :- ", "not ", "q", "", "."},
		{"p :- ", "not (a, ", "fail", ")", "."},
		{"p :- ", "not (", "X = Y", " ; b)", ", r."},
		{"p :- ", "try ", "q", " catch E then r", "."},
		{"p :- ", "try q catch E then ", "throw 1", "", "."},
		{"p :- ", "try (a, ", "q", ") catch E then (a ; b)", "."},
		{"p :- ", "try (a, b) catch E then (r ; ", "q(X)", ")", "."},
		{"p :- ", "(a ; try (not (", "q", "), b) catch E then c)", "."},
	} {
		text := func(depth int) string {
			return c.before + strings.Repeat(c.open, depth) + c.core + strings.Repeat(c.shut, depth) + c.after
		}
		depth := 0
		for again(t, text(depth), parse.Source, print.Source) {
			depth++
			if t.Failed() { // what is wrong here may take for ever deeper down
				return
			}
		}
		if _, err := parse.Source(text(depth)); err != api.ErrNest {
			t.Errorf("%s: %v", short(text(depth)), err)
		}
	}
}

// P3.2: sources with as many items, arguments and parts as they may have.
func TestWidestAgain(t *testing.T) {
	row := func(count int, element, mark string) string {
		return strings.TrimSuffix(strings.Repeat(element+mark, count), mark)
	}
	full := func(element string) string { return "(" + row(api.MaxArity, element, ",") + ")" }
	for _, text := range []string{
		strings.Repeat("p.", api.MaxItems),
		strings.Repeat("mode p is det.", api.MaxItems),
		"p" + full("f"+full("X")) + ":-q" + full("g"+full("-1")) + ";f" + full("a") + "=f" + full("Y") + ".",
		"pred p" + full("l"+full("T")) + ".mode p" + full("in") + "is det.mode p" + full("out") + "is multi.",
		"type t" + full("T") + "=a" + full("int") + "|b" + full("u"+full("T")) + ".",
		"type t=" + row(3000, "a", "|") + ".",
		"p:-" + row(3000, "a", ",") + ".",
		"p:-" + row(3000, "a", ";") + ".",
		"p:-" + row(700, "(a;b,c)", ",") + ".",
		"p:-" + row(700, "(a;b),not c", ";") + ".",
	} {
		sourceAgain(t, text)
	}
}

// P3.1: a form is whole even where it is larger than a source may be.
func TestLargeForms(t *testing.T) {
	items, err := parse.Source("p:-" + strings.Repeat("a,", 8000) + "a.")
	if err != nil {
		t.Fatal(err)
	}
	same(t, print.Source(items), "p :- "+strings.Repeat("a, ", 8000)+"a.\n")

	const many = 1 << 18
	same(t, print.Term(made("f", make([]api.Term, many)...)), "f("+strings.Repeat(", ", many-1)+")")
	same(t, print.Type(someType("t", make([]api.TypeExpr, many)...)), "t("+strings.Repeat(", ", many-1)+")")
	same(t, print.Goal(of(api.GAnd, make([]api.Goal, many)...)), strings.Repeat(", ", many-1))
	same(t, print.Goal(of(api.GOr, make([]api.Goal, many)...)), strings.Repeat(" ; ", many-1))
	same(t, print.Source(make([]api.Item, many)), strings.Repeat(".\n", many))
	same(t, print.Item(api.Item{Kind: api.ItemType, Ctors: make([]api.CtorDecl, many)}), "type  = "+strings.Repeat(" | ", many-1)+".\n")
	same(t, print.Item(api.Item{Kind: api.ItemMode, In: make([]bool, many)}), "mode (out"+strings.Repeat(", out", many-1)+") is .\n")
	same(t, print.Term(variable(strings.Repeat("X", many))), strings.Repeat("X", many))
}

// P3.1: parts may be nested in one another up to the scope's bound, far deeper than layer 2 parses.
func TestDeepForms(t *testing.T) {
	for _, deep := range []int{2, 4, 10, 1<<16 - 8} {
		holdDeepForms(t, deep)
		if t.Failed() { // what is wrong here may take for ever deeper down
			return
		}
	}
}

// holdDeepForms holds forms of parts that nest so deep, an even number, against what they should be.
func holdDeepForms(t *testing.T, deep int) {
	t.Helper()
	nested := func(open, core, shut string) string {
		return strings.Repeat(open, deep) + core + strings.Repeat(shut, deep)
	}
	term, typ := variable("X"), typeVar("T")
	ands, turns, nots, firsts, seconds := call("q"), call("q"), call("q"), call("q"), call("q")
	for i := range deep {
		term, typ = made("f", term), someType("l", typ)
		ands = of(api.GAnd, ands)
		turns = of([]int{api.GAnd, api.GOr}[i%2], call("r"), turns)
		nots = of(api.GNot, nots)
		firsts, seconds = try("E", firsts, call("r")), try("E", call("r"), seconds)
	}
	same(t, print.Term(term), nested("f(", "X", ")"))
	same(t, print.Goal(api.Goal{Kind: api.GUnify, A: term, B: term}), nested("f(", "X", ")")+" = "+nested("f(", "X", ")"))
	same(t, print.Type(typ), nested("l(", "T", ")"))
	same(t, print.Goal(of(api.GAnd, ands)), nested("(", "q", ")"))
	same(t, print.Goal(nots), nested("not ", "q", ""))
	same(t, print.Goal(firsts), nested("try ", "q", " catch E then r"))
	same(t, print.Item(clause("p", seconds)), "p :- "+nested("try r catch E then ", "q", "")+".\n")
	same(t, print.Goal(turns), "r ; r, "+strings.Repeat("(r ; r, ", deep/2-1)+"q"+strings.Repeat(")", deep/2-1))
}
