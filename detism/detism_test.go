package detism_test

import (
	"fmt"
	"strings"
	"testing"

	"augur/api"
	"augur/detism"
	"augur/flat"
	"augur/modes"
	"augur/names"
	"augur/parse"
	"augur/types"
)

// declared stands ahead of the predicate in the tables: what it may use, besides itself.
const declared = `type list(T) = nil | cons(T, list(T)).
type t = a | b | f(t) | g(t, t) | a(t).
type one = one(t, int).
type box(T) = box(T).
type unit = unit.
pred once. mode once is det.
pred maybe. mode maybe is semidet.
pred some. mode some is multi.
pred any. mode any is nondet.
pred test(t). mode test(in) is semidet.
pred make(t). mode make(out) is det.
pred gen(t). mode gen(in) is semidet. mode gen(out) is multi.
pred way(t, t). mode way(in, in) is det. mode way(in, out) is semidet. mode way(out, in) is multi. mode way(out, out) is nondet.
`

// read is a text's items and their index.
func read(t *testing.T, text string) ([]api.Item, api.Index) {
	t.Helper()
	items, err := parse.Source(text)
	if err != nil {
		t.Fatalf("%s isn't parsed: %v", text, err)
	}
	x, err := names.Resolve(items)
	if err != nil {
		t.Fatalf("%s isn't well named: %v", text, err)
	}
	return items, x
}

func key(name string, arity int) api.Key { return api.Key{Name: name, Arity: arity} }

// form tells what is in a value, where nil and empty lists are the same.
func form(value any) string { return fmt.Sprintf("%+v", value) }

// held holds what was answered against what should be.
func held(t *testing.T, what string, got, want any) {
	t.Helper()
	if form(got) != form(want) {
		t.Errorf("%.600s:\n%.1500s, not\n%.1500s", what, form(got), form(want))
	}
}

// scheduled is a predicate's procedure in one of its modes, without its switches.
func scheduled(t *testing.T, items []api.Item, x api.Index, k api.Key, mode int) api.Proc {
	t.Helper()
	b, err := flat.Flatten(items, x, k)
	if err != nil {
		t.Fatalf("%v: %v", k, err)
	}
	list, err := types.Infer(x, b)
	if err != nil {
		t.Fatalf("%v: %v", k, err)
	}
	p, err := modes.Schedule(x, b, list, mode)
	if err != nil {
		t.Fatalf("%v: %v", k, err)
	}
	return p
}

// row is a predicate p of these types, in a mode of these ways ("i" in, "o" out), with clauses: its goal with its switches, and
// what it is then ("det", "semidet", "multi", "nondet", or "" if it is refused).
type row struct{ args, ways, clauses, goal, is string }

// source declares a predicate p with one mode.
func (r row) source() string {
	args, ways := "", ""
	if r.args != "" {
		args = "(" + r.args + ")"
		ways = "(" + strings.NewReplacer("i", "in", "o", "out").Replace(strings.Join(strings.Split(r.ways, ""), ", ")) + ")"
	}
	return declared + "pred p" + args + ". mode p" + ways + " is det.\n" + r.clauses
}

// words are the kinds of determinism.
func words() []string { return []string{"", "det", "semidet", "multi", "nondet"} }

// inferred is what a procedure is, as a word; "" if it is refused.
func inferred(t *testing.T, what string, x api.Index, p api.Proc) string {
	t.Helper()
	is, err := detism.Infer(x, p)
	if err != nil {
		held(t, what, err, api.ErrDet)
		held(t, what, is, 0)
		return ""
	}
	if is < api.Det || is > api.Nondet {
		t.Fatalf("%s is %d", what, is)
	}
	return words()[is]
}

// accepted is which declarations a procedure may have that is something, by word.
func accepted(is string) string {
	return map[string]string{"": "", "det": "det semidet multi nondet", "semidet": "semidet nondet", "multi": "multi nondet", "nondet": "nondet"}[is]
}

// checked is which declarations of a procedure Check accepts.
func checked(t *testing.T, what string, x api.Index, p api.Proc) string {
	t.Helper()
	var list []string
	for det, word := range words() {
		if det == 0 {
			continue
		}
		p.Det = det
		switch err := detism.Check(x, p); err {
		case nil:
			list = append(list, word)
		case api.ErrDet:
		default:
			t.Errorf("%s: %v", what, err)
		}
	}
	return strings.Join(list, " ")
}

// holds tries rows of a table.
func holds(t *testing.T, rows ...row) {
	t.Helper()
	for _, r := range rows {
		items, x := read(t, r.source())
		what := r.args + " " + r.ways + " " + r.clauses
		before := scheduled(t, items, x, key("p", len(r.ways)), 0)
		p := detism.Switches(x, before)
		held(t, what, text(p.Goal), r.goal)
		before.Goal = p.Goal
		held(t, what, p, before)
		held(t, what, inferred(t, what, x, p), r.is)
		held(t, what, checked(t, what, x, p), accepted(r.is))
		held(t, what+" again", detism.Switches(x, p), p)
	}
}

const appendSource = `type list(T) = nil | cons(T, list(T)).
pred append(list(T), list(T), list(T)).
mode append(in, in, out) is det.
mode append(out, out, in) is multi.
append(nil, Y, Y).
append(cons(H, T), Y, cons(H, Z)) :- append(T, Y, Z).
`

const memberSource = `pred member(T, list(T)).
mode member(out, in) is nondet.
member(X, cons(X, _)).
member(X, cons(_, T)) :- member(X, T).
`

const evenSource = `type nat = z | s(nat).
pred even(nat).
mode even(in) is semidet.
even(z).
even(s(s(X))) :- even(X).
`

// P9.1: the document's examples.
func TestExamples(t *testing.T) {
	items, _ := read(t, appendSource+memberSource+evenSource)
	x, procs, err := detism.Compile(items)
	held(t, "examples", err, nil)
	for i, want := range []struct{ pred, goal, is string }{
		{"append", "switch 0 (nil/0: [match 0 nil, copy 2 1]; cons/2: [match 0 cons 3 4, append'0 4 1 5, build 2 cons 3 5])", "det"},
		{"append", "or([build 0 nil, copy 1 2], [match 2 cons 3 5, append'1 4 1 5, build 0 cons 3 4])", "multi"},
		{"member", "or(match 1 cons 0 2, [match 1 cons 3 4, member'0 0 4])", "nondet"},
		{"even", "switch 0 (z/0: match 0 z; s/1: [match 0 s 1, match 1 s 2, even'0 2])", "semidet"},
	} {
		held(t, want.pred, procs[i].Id.Pred.Name, want.pred)
		held(t, want.pred, text(procs[i].Goal), want.goal)
		held(t, want.pred, inferred(t, want.pred, x, procs[i]), want.is)
	}
	held(t, "examples", len(procs), 4)
	// The whole's third example.
	items, _ = read(t, strings.Replace(appendSource, "is multi", "is det", 1))
	refused(t, "append is det", items, api.ErrDet)
	items, _ = read(t, strings.Replace(appendSource, "append(nil, Y, Y)", "append(nil, Y, Z)", 1))
	refused(t, "append without a value", items, api.ErrModes)
}

// refused asks that Compile answers an error, and nothing beside it.
func refused(t *testing.T, what string, items []api.Item, want error) {
	t.Helper()
	x, procs, err := detism.Compile(items)
	held(t, what, err, want)
	held(t, what, x, api.Index{})
	held(t, what, procs, []api.Proc(nil))
}

// P9.1: an SOr becomes a switch if each of its goals asks a variable, and they ask for two constructors or more.
func TestSwitch(t *testing.T) {
	holds(t,
		row{"t", "i", "p(a). p(b).", "switch 0 (a/0: match 0 a; b/0: match 0 b)", "semidet"},
		row{"t", "i", "p(b). p(a).", "switch 0 (b/0: match 0 b; a/0: match 0 a)", "semidet"},
		row{"t", "i", "p(a) :- once. p(b) :- maybe.", "switch 0 (a/0: [match 0 a, once'0]; b/0: [match 0 b, maybe'0])", "semidet"},
		row{"unit", "i", "p(unit). p(unit).", "or(match 0 unit, match 0 unit)", "multi"},
		row{"t", "i", "p(a). p(a).", "or(match 0 a, match 0 a)", "nondet"},
		row{"t", "i", "p(a).", "match 0 a", "semidet"},
		row{"t", "i", "", "fail", "semidet"},
		row{"t", "i", "p(a). p(_).", "or(match 0 a, true)", "multi"},
		row{"t", "i", "p(_). p(a).", "or(true, match 0 a)", "multi"},
		row{"t", "i", "p(a). p(b). p(_) :- fail.", "or(match 0 a, match 0 b, fail)", "nondet"},
		row{"t", "o", "p(a). p(b).", "or(build 0 a, build 0 b)", "multi"},
		row{"int", "i", "p(1). p(2).", "or(is 0 1, is 0 2)", "nondet"},
		// Constructors of one name with other numbers of arguments are different.
		row{"t", "i", "p(a). p(a(_)).", "switch 0 (a/0: match 0 a; a/1: match 0 a 1)", "semidet"},
		// All constructors.
		row{"list(t)", "i", "p(nil). p(cons(_, _)).", "switch 0 (nil/0: match 0 nil; cons/2: match 0 cons 1 2)", "det"},
		row{"list(t)", "i", "p(cons(_, _)). p(nil).", "switch 0 (cons/2: match 0 cons 1 2; nil/0: match 0 nil)", "det"},
		row{"t", "i", "p(a). p(b). p(f(_)). p(g(_, _)). p(a(_)).",
			"switch 0 (a/0: match 0 a; b/0: match 0 b; f/1: match 0 f 1; g/2: match 0 g 2 3; a/1: match 0 a 4)", "det"},
		// Several goals for one constructor: the SOr of them, in order.
		row{"t", "i", "p(a). p(b). p(a) :- once.", "switch 0 (a/0: or(match 0 a, [match 0 a, once'0]); b/0: match 0 b)", "nondet"},
		row{"t", "i", "p(a) :- once. p(b) :- once. p(a) :- maybe. p(b). p(b) :- some. p(f(_)).",
			"switch 0 (a/0: or([match 0 a, once'0], [match 0 a, maybe'0]); b/0: or([match 0 b, once'0], match 0 b, [match 0 b, some'0]); f/1: match 0 f 1)", "nondet"},
		// Cases are in the order in which they are first asked for.
		row{"t", "i", "p(b). p(b). p(f(_)). p(b). p(a). p(f(_)).",
			"switch 0 (b/0: or(match 0 b, match 0 b, match 0 b); f/1: or(match 0 f 1, match 0 f 2); a/0: match 0 a)", "nondet"},
		// An SOr within a clause, in any place.
		row{"t", "i", "p(X) :- once, (X = a ; X = b), maybe.", "[once'0, switch 0 (a/0: match 0 a; b/0: match 0 b), maybe'0]", "semidet"},
		row{"t", "i", "p(X) :- not (X = a ; X = b).", "not(switch 0 (a/0: match 0 a; b/0: match 0 b))", "semidet"},
		row{"t", "i", "p(X) :- try (X = a ; X = b) catch _ then (X = b ; X = a).",
			"try 1 (switch 0 (a/0: match 0 a; b/0: match 0 b), switch 0 (b/0: match 0 b; a/0: match 0 a))", "semidet"},
		row{"t", "i", "p(X) :- once ; once, (X = a ; X = b).", "or(once'0, [once'0, switch 0 (a/0: match 0 a; b/0: match 0 b)])", "multi"},
		row{"t", "i", "p(X) :- (X = a ; X = b) ; once.", "or(switch 0 (a/0: match 0 a; b/0: match 0 b), once'0)", "multi"},
		row{"t, t", "ii", "p(X, Y) :- (X = a ; X = b), (Y = a ; Y = b).",
			"[switch 0 (a/0: match 0 a; b/0: match 0 b), switch 1 (a/0: match 1 a; b/0: match 1 b)]", "semidet"},
		// Within a case, too: an SOr there is one of its own, and may be a switch of the same variable.
		row{"t, t", "ii", "p(a, X) :- X = a ; X = b. p(b, _).",
			"switch 0 (a/0: [match 0 a, switch 1 (a/0: match 1 a; b/0: match 1 b)]; b/0: match 0 b)", "semidet"},
		row{"t", "i", "p(X) :- X = a, (X = a ; X = b). p(b).",
			"switch 0 (a/0: [match 0 a, switch 0 (a/0: match 0 a; b/0: match 0 b)]; b/0: match 0 b)", "semidet"},
	)
}

// P9.1: what a goal asks is in its head, which is SMatch, SBuild, SCopy and SLoad alone.
func TestHead(t *testing.T) {
	// Both goals have this ahead of the SMatch.
	twice := func(ahead string) string { return "p(X) :- " + ahead + ", X = a ; " + ahead + ", X = b." }
	split := func(ahead, told string) row {
		return row{"t", "i", twice(ahead), "switch 0 (a/0: [" + told + ", match 0 a]; b/0: [" + told + ", match 0 b])", "semidet"}
	}
	whole := func(ahead, told string) row {
		return row{"t", "i", twice(ahead), "or([" + told + ", match 0 a], [" + told + ", match 0 b])", "nondet"}
	}
	holds(t,
		split("Y = a", "build 1 a"),
		split("Y = 5", "load 1 5"),
		split("Y = X", "copy 1 0"),
		split("Y = 5, Z = X, V = f(X)", "load 1 5, copy 2 0, build 3 f 0"),
		whole("fail", "fail"),
		whole("X = X", "test 0 0"),
		whole("Y = 5, Y = 5", "load 1 5, is 1 5"),
		whole("once", "once'0"),
		whole("Y = 5, lt(Y, Y)", "load 1 5, lt'0 1 1"),
		whole("(once ; once)", "or(once'0, once'0)"),
		whole("not once", "not(once'0)"),
		whole("Y = 5, throw Y", "load 1 5, throw 1"),
		row{"t", "i", twice("try once catch _ then once"), "or([try 1 (once'0, once'0), match 0 a], [try 2 (once'0, once'0), match 0 b])", "nondet"},
		// FTrue leaves nothing in a list, but is a goal alone.
		row{"t", "i", "p(X) :- true, X = a ; X = b.", "switch 0 (a/0: match 0 a; b/0: match 0 b)", "semidet"},
		row{"t", "i", "p(X) :- true ; X = a ; X = b.", "or(true, match 0 a, match 0 b)", "multi"},
		// In one goal the head ends ahead of it.
		row{"t", "i", "p(X) :- X = a ; once, X = b.", "or(match 0 a, [once'0, match 0 b])", "nondet"},
		row{"t", "i", "p(X) :- once, X = a ; X = b.", "or([once'0, match 0 a], match 0 b)", "nondet"},
		// The SMatch alone, or a list.
		row{"t", "i", "p(X) :- X = a ; X = b, once.", "switch 0 (a/0: match 0 a; b/0: [match 0 b, once'0])", "semidet"},
		// A goal that is an SOr or a switch itself asks nothing.
		row{"t", "i", "p(X) :- (X = a ; X = b) ; X = f(_).", "or(switch 0 (a/0: match 0 a; b/0: match 0 b), match 0 f 1)", "nondet"},
		row{"t", "i", "p(X) :- X = f(_) ; (X = a ; X = b).", "or(match 0 f 1, switch 0 (a/0: match 0 a; b/0: match 0 b))", "nondet"},
		// The new variables of an SMatch are followed by tests, at which the head ends.
		row{"t, t", "ii", "p(X, Y) :- X = f(X), Y = a ; X = f(X), Y = b.", "or([match 0 f 2, test 2 0, match 1 a], [match 0 f 3, test 3 0, match 1 b])", "nondet"},
		row{"t, t", "ii", "p(X, Y) :- Y = a, X = f(X) ; Y = b, X = f(X).", "switch 1 (a/0: [match 1 a, match 0 f 2, test 2 0]; b/0: [match 1 b, match 0 f 3, test 3 0])", "semidet"},
	)
}

// P9.1: the first SMatch of a variable decides, unless a goal before it gives the variable a value.
func TestAsked(t *testing.T) {
	holds(t,
		row{"t", "i", "p(X) :- X = a, X = b ; X = b.", "switch 0 (a/0: [match 0 a, match 0 b]; b/0: match 0 b)", "semidet"},
		row{"t", "i", "p(X) :- X = a, X = b ; X = a.", "or([match 0 a, match 0 b], match 0 a)", "nondet"},
		row{"t", "i", "p(X) :- X = a ; X = b, X = a.", "switch 0 (a/0: match 0 a; b/0: [match 0 b, match 0 a])", "semidet"},
		// Given a value by each kind of goal in a head, in each goal or in one.
		row{"t", "i", "p(X) :- Y = X, Y = a ; Y = X, Y = b.", "or([copy 1 0, match 1 a], [copy 1 0, match 1 b])", "nondet"},
		row{"t", "i", "p(_) :- Y = a, Y = a ; Y = a, Y = b.", "or([build 1 a, match 1 a], [build 1 a, match 1 b])", "nondet"},
		row{"t", "i", "p(X) :- X = f(Y), Y = a ; X = f(Y), Y = b.", "or([match 0 f 1, match 1 a], [match 0 f 1, match 1 b])", "nondet"},
		row{"t", "i", "p(X) :- X = g(_, Y), Y = a ; X = g(Y, _), Y = b.", "or([match 0 g 1 2, match 2 a], [match 0 g 2 3, match 2 b])", "nondet"},
		row{"one", "i", "p(X) :- X = one(Y, _), Y = a ; X = one(Y, _), Y = b.", "or([match 0 one 1 2, match 1 a], [match 0 one 1 3, match 1 b])", "nondet"},
		// Each one's own variables.
		row{"t", "i", "p(f(a)). p(f(b)).", "or([match 0 f 1, match 1 a], [match 0 f 2, match 2 b])", "nondet"},
		// A variable that has its value from before the SOr.
		row{"t", "i", "p(X) :- X = f(Y), (Y = a ; Y = b).", "[match 0 f 1, switch 1 (a/0: match 1 a; b/0: match 1 b)]", "semidet"},
		row{"", "", "p :- make(Y), (Y = a ; Y = b).", "[make'0 0, switch 0 (a/0: match 0 a; b/0: match 0 b)]", "semidet"},
		row{"", "", "p :- Y = a, (Y = a ; Y = b).", "[build 0 a, switch 0 (a/0: match 0 a; b/0: match 0 b)]", "semidet"},
	)
}

// P9.1: which variable: the first one of the first goal's head that each goal asks, with two constructors or more.
func TestWhichVariable(t *testing.T) {
	holds(t,
		row{"t, t", "ii", "p(a, a). p(b, b).", "switch 0 (a/0: [match 0 a, match 1 a]; b/0: [match 0 b, match 1 b])", "semidet"},
		row{"t, t", "ii", "p(X, Y) :- Y = a, X = a ; X = b, Y = b.", "switch 1 (a/0: [match 1 a, match 0 a]; b/0: [match 0 b, match 1 b])", "semidet"},
		row{"t, t", "ii", "p(X, Y) :- X = a, Y = a ; Y = b, X = b.", "switch 0 (a/0: [match 0 a, match 1 a]; b/0: [match 1 b, match 0 b])", "semidet"},
		// One constructor alone of the first one.
		row{"t, t", "ii", "p(a, a). p(a, b).", "switch 1 (a/0: [match 0 a, match 1 a]; b/0: [match 0 a, match 1 b])", "semidet"},
		row{"t, t, t", "iii", "p(a, b, a). p(a, b, b). p(a, b, a).",
			"switch 2 (a/0: or([match 0 a, match 1 b, match 2 a], [match 0 a, match 1 b, match 2 a]); b/0: [match 0 a, match 1 b, match 2 b])", "nondet"},
		// Not asked by one goal, be it the first, the last, or one between.
		row{"t, t", "ii", "p(a, a). p(b, _). p(f(_), b).", "switch 0 (a/0: [match 0 a, match 1 a]; b/0: match 0 b; f/1: [match 0 f 2, match 1 b])", "semidet"},
		row{"t, t", "ii", "p(a, a). p(_, b). p(b, f(_)).", "switch 1 (a/0: [match 0 a, match 1 a]; b/0: match 1 b; f/1: [match 0 b, match 1 f 2])", "semidet"},
		row{"t, t", "ii", "p(a, a). p(b, b). p(_, a).", "switch 1 (a/0: or([match 0 a, match 1 a], match 1 a); b/0: [match 0 b, match 1 b])", "nondet"},
		row{"t, t", "ii", "p(_, a). p(a, b). p(b, a).", "switch 1 (a/0: or(match 1 a, [match 0 b, match 1 a]); b/0: [match 0 a, match 1 b])", "nondet"},
		row{"t, t", "ii", "p(a, _). p(_, b).", "or(match 0 a, match 1 b)", "nondet"},
		row{"t, t", "ii", "p(a, _). p(_, b). p(b, a).", "or(match 0 a, match 1 b, [match 0 b, match 1 a])", "nondet"},
		// The first one is given a value in another goal's head, so that one doesn't ask it.
		row{"t, t", "ii", "p(X, Y) :- X = f(Z), Z = a, Y = a ; X = f(Z), Z = b, Y = b.",
			"switch 1 (a/0: [match 0 f 2, match 2 a, match 1 a]; b/0: [match 0 f 2, match 2 b, match 1 b])", "semidet"},
	)
}

// P9.1: the SOr of a case has its switches, of other variables, and so on.
func TestSwitchesInCases(t *testing.T) {
	holds(t,
		row{"t, t", "ii", "p(a, a). p(a, b). p(b, _).",
			"switch 0 (a/0: switch 1 (a/0: [match 0 a, match 1 a]; b/0: [match 0 a, match 1 b]); b/0: match 0 b)", "semidet"},
		row{"list(t), list(t)", "ii", "p(nil, nil). p(nil, cons(_, _)). p(cons(_, _), nil). p(cons(_, _), cons(_, _)).",
			"switch 0 (nil/0: switch 1 (nil/0: [match 0 nil, match 1 nil]; cons/2: [match 0 nil, match 1 cons 2 3]); " +
				"cons/2: switch 1 (nil/0: [match 0 cons 4 5, match 1 nil]; cons/2: [match 0 cons 6 7, match 1 cons 8 9]))", "det"},
		row{"list(t), list(t)", "ii", "p(nil, _). p(cons(_, _), nil). p(cons(_, _), cons(_, _)).",
			"switch 0 (nil/0: match 0 nil; cons/2: switch 1 (nil/0: [match 0 cons 2 3, match 1 nil]; cons/2: [match 0 cons 4 5, match 1 cons 6 7]))", "det"},
		// Goals of one case lie apart.
		row{"t, t", "ii", "p(a, b). p(b, a). p(a, a). p(b, f(_)). p(a, b) :- once.",
			"switch 0 (a/0: switch 1 (b/0: or([match 0 a, match 1 b], [match 0 a, match 1 b, once'0]); a/0: [match 0 a, match 1 a]); " +
				"b/0: switch 1 (a/0: [match 0 b, match 1 a]; f/1: [match 0 b, match 1 f 2]))", "nondet"},
		// Three variables.
		row{"t, t, t", "iii", "p(a, a, a). p(a, a, b). p(a, b, _). p(b, _, _).",
			"switch 0 (a/0: switch 1 (a/0: switch 2 (a/0: [match 0 a, match 1 a, match 2 a]; b/0: [match 0 a, match 1 a, match 2 b]); " +
				"b/0: [match 0 a, match 1 b]); b/0: match 0 b)", "semidet"},
		// A variable that is not asked by all goals may be asked by all of a case.
		row{"t, t", "ii", "p(a, a). p(b, _). p(a, b).",
			"switch 0 (a/0: switch 1 (a/0: [match 0 a, match 1 a]; b/0: [match 0 a, match 1 b]); b/0: match 0 b)", "semidet"},
		// The order within a case is that of the case's first goal.
		row{"t, t, t", "iii", "p(X, Y, Z) :- X = a ; X = b, Z = a, Y = a ; X = b, Y = b, Z = b.",
			"switch 0 (a/0: match 0 a; b/0: switch 2 (a/0: [match 0 b, match 2 a, match 1 a]; b/0: [match 0 b, match 1 b, match 2 b]))", "semidet"},
	)
}
