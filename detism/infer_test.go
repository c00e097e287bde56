package detism_test

import (
	"fmt"
	"strings"
	"testing"

	"augur/api"
	"augur/detism"
	"augur/parse"
)

// judged is a goal of a procedure with variables of these types, and what it is; "" if it is refused.
type judged struct{ types, goal, is string }

// procOf is a procedure without arguments of a goal.
func procOf(t *testing.T, types, goal string) api.Proc {
	t.Helper()
	list := typesOf(t, types)
	return api.Proc{Id: api.ProcId{Pred: key("p", 0)}, Det: api.Nondet, Types: list, Vars: len(list), Goal: goalOf(t, goal)}
}

// judges tries rows of a table.
func judges(t *testing.T, rows ...judged) {
	t.Helper()
	_, x := read(t, declared)
	for _, r := range rows {
		p := procOf(t, r.types, r.goal)
		held(t, r.goal, inferred(t, r.goal, x, p), r.is)
		held(t, r.goal, checked(t, r.goal, x, p), accepted(r.is))
	}
}

// P9.1: goals without goals within them.
func TestInferPlain(t *testing.T) {
	judges(t,
		judged{"", "true", "det"},
		judged{"t t", "copy 1 0", "det"},
		judged{"int", "load 0 5", "det"},
		judged{"t", "build 0 a", "det"},
		judged{"t t", "build 0 f 1", "det"},
		judged{"int", "throw 0", "det"},
		judged{"", "fail", "semidet"},
		judged{"t t", "test 0 1", "semidet"},
		judged{"t", "test 0 0", "semidet"},
		judged{"int", "is 0 5", "semidet"},
		// SMatch: whether the type has other constructors.
		judged{"t", "match 0 a", "semidet"},
		judged{"list(t) t list(t)", "match 0 cons 1 2", "semidet"},
		judged{"unit", "match 0 unit", "det"},
		judged{"one t int", "match 0 one 1 2", "det"},
		judged{"box(t) t", "match 0 box 1", "det"},
		judged{"box(T) T", "match 0 box 1", "det"},
		judged{"box(list(t)) list(t)", "match 0 box 1", "det"},
		judged{"list(unit)", "match 0 nil", "semidet"},
		judged{"t one t int", "match 1 one 2 3", "det"},
		judged{"one t t t", "match 1 g 2 3", "semidet"},
		// SCall: by the mode.
		judged{"", "once'0", "det"},
		judged{"", "maybe'0", "semidet"},
		judged{"", "some'0", "multi"},
		judged{"", "any'0", "nondet"},
		judged{"t t", "way'0 0 1", "det"},
		judged{"t t", "way'1 0 1", "semidet"},
		judged{"t t", "way'2 0 1", "multi"},
		judged{"t t", "way'3 0 1", "nondet"},
		judged{"int int int", "add'0 0 1 2", "det"},
		judged{"int int int", "mod'0 0 1 2", "det"},
		judged{"int int", "lt'0 0 1", "semidet"},
		judged{"int int", "le'0 0 1", "semidet"},
	)
}

// P9.1: SAnd may what one of its goals may.
func TestInferAnd(t *testing.T) {
	judges(t,
		judged{"", "[]", "det"},
		judged{"", "[true, once'0]", "det"},
		judged{"", "[once'0, maybe'0, once'0]", "semidet"},
		judged{"", "[once'0, some'0, once'0]", "multi"},
		judged{"", "[once'0, any'0, once'0]", "nondet"},
		judged{"", "[maybe'0, some'0]", "nondet"},
		judged{"", "[some'0, maybe'0]", "nondet"},
		judged{"", "[some'0, some'0]", "multi"},
		// What stands behind a goal that ends counts, too.
		judged{"", "[fail, any'0]", "nondet"},
		judged{"int", "[throw 0, any'0]", "nondet"},
		judged{"int", "[load 0 1, throw 0]", "det"},
		// A list within a list.
		judged{"", "[true, [once'0, maybe'0], true]", "semidet"},
		judged{"", "[[some'0, true], [true, maybe'0]]", "nondet"},
	)
}

// P9.1: after an SMatch its constructor is known, in what follows in the list and in the goals within that.
func TestInferKnown(t *testing.T) {
	judges(t,
		judged{"t", "[match 0 a, match 0 a]", "semidet"},
		judged{"list(t) t", "switch 0 (nil/0: match 0 nil; cons/2: [match 0 cons 1 0, once'0])", "det"},
		judged{"list(t)", "switch 0 (nil/0: [match 0 nil, match 0 nil]; cons/2: true)", "det"},
		judged{"list(t)", "switch 0 (nil/0: match 0 cons 0 0; cons/2: true)", "semidet"},
		judged{"list(t)", "switch 0 (nil/0: [once'0, build 0 nil, match 0 nil]; cons/2: true)", "det"},
		// Constructors of one name are different.
		judged{"t", "switch 0 (a/0: match 0 a; b/0: true; f/1: true; g/2: true; a/1: match 0 a 0)", "det"},
		judged{"t", "switch 0 (a/0: match 0 a 0; b/0: true; f/1: true; g/2: true; a/1: true)", "semidet"},
		judged{"t", "switch 0 (a/0: true; b/0: true; f/1: true; g/2: true; a/1: match 0 a)", "semidet"},
		judged{"t", "switch 0 (a/0: match 0 b; b/0: true; f/1: true; g/2: true; a/1: true)", "semidet"},
		judged{"t", "switch 0 (a/0: true; b/0: true; f/1: match 0 a 0; g/2: true; a/1: true)", "semidet"},
		// Another variable's isn't known, nor this one's where it isn't in a case.
		judged{"list(t) list(t)", "switch 0 (nil/0: match 1 nil; cons/2: true)", "semidet"},
		judged{"list(t) list(t)", "switch 0 (nil/0: [copy 1 0, match 1 nil]; cons/2: true)", "semidet"},
		judged{"list(t)", "switch 0 (nil/0: true; cons/2: match 0 nil)", "semidet"},
		judged{"list(t)", "[switch 0 (nil/0: true; cons/2: true), match 0 nil]", "semidet"},
		judged{"list(t)", "[switch 0 (nil/0: match 0 nil; cons/2: true), match 0 nil]", "semidet"},
		judged{"list(t)", "[switch 0 (nil/0: true; cons/2: true), match 0 cons 0 0]", "semidet"},
		// A value that is built isn't known.
		judged{"list(t)", "[build 0 nil, match 0 nil]", "semidet"},
		// Within goals.
		judged{"list(t)", "switch 0 (nil/0: or(match 0 nil, fail); cons/2: true)", "multi"},
		judged{"list(t)", "switch 0 (nil/0: or(match 0 cons 0 0, fail); cons/2: true)", "nondet"},
		judged{"list(t) int", "switch 0 (nil/0: try 1 (match 0 nil, match 0 nil); cons/2: true)", "det"},
		judged{"list(t) int", "switch 0 (nil/0: try 1 (match 0 nil, match 0 cons 0 0); cons/2: true)", "semidet"},
		judged{"list(t)", "switch 0 (nil/0: [once'0, [once'0, match 0 nil]]; cons/2: true)", "det"},
		judged{"list(t) list(t)", "switch 0 (nil/0: switch 1 (nil/0: [match 0 nil, match 1 nil]; cons/2: [match 1 cons 2 3, match 0 nil]); cons/2: match 0 cons 2 3)", "det"},
		judged{"list(t) list(t)", "switch 0 (nil/0: switch 1 (nil/0: [match 0 nil, match 1 nil]; cons/2: [match 1 cons 2 3, match 0 cons 2 3]); cons/2: match 0 cons 2 3)", "semidet"},
		// A case within a case of the same variable: its constructor is what counts, and the other one's again behind it.
		judged{"list(t)", "switch 0 (nil/0: [switch 0 (nil/0: match 0 nil; cons/2: match 0 cons 1 2), match 0 nil]; cons/2: match 0 cons 1 2)", "det"},
		judged{"list(t)", "switch 0 (nil/0: [switch 0 (nil/0: true; cons/2: match 0 cons 1 2), match 0 cons 1 2]; cons/2: true)", "semidet"},
	)
}

// P9.1: what an SMatch makes known to each kind of goal behind it. In its case the SMatch can't fail itself, so the rest decides.
func TestInferBehindMatch(t *testing.T) {
	for _, c := range []struct{ rest, is string }{
		{"match 1 a", "semidet"},
		{"[match 1 a, match 1 a]", "semidet"},
		{"match 0 g 3 4", "det"},
		{"match 0 a", "semidet"},
		{"or(match 0 g 3 4, fail)", "multi"},
		{"or(match 0 a, fail)", "nondet"},
		{"or(match 0 a, match 0 g 3 4)", "multi"},
		{"not(match 0 g 3 4)", "semidet"},
		{"try 5 (match 0 g 3 4, [once'0, match 0 g 3 4])", "det"},
		{"try 5 (match 0 a, match 0 g 3 4)", "semidet"},
		{"try 5 (match 0 g 3 4, match 0 a)", "semidet"},
		{"[true, match 0 g 3 4]", "det"},
		{"match 0 g 3 4, match 0 g 5 6", "det"},
		{"once'0, true, match 0 g 3 4", "det"},
		{"switch 6 (unit/0: match 0 g 3 4)", "det"},
		{"switch 6 (unit/0: match 0 a)", "semidet"},
		{"match 0 a, match 0 a", "semidet"},
		{"any'0", "nondet"},
	} {
		judges(t, judged{"t t t t t t unit", "switch 0 (a/0: true; b/0: true; f/1: true; g/2: [match 0 g 1 2, " + c.rest + "]; a/1: true)", c.is})
	}
}

// P9.1: SOr may be many, and may fail if all its goals may.
func TestInferOr(t *testing.T) {
	judges(t,
		judged{"", "or(once'0, once'0)", "multi"},
		judged{"", "or(maybe'0, once'0)", "multi"},
		judged{"", "or(once'0, maybe'0)", "multi"},
		judged{"", "or(maybe'0, once'0, any'0)", "multi"},
		judged{"", "or(maybe'0, any'0, some'0)", "multi"},
		judged{"", "or(maybe'0, maybe'0)", "nondet"},
		judged{"", "or(any'0, fail)", "nondet"},
		judged{"", "or(fail, fail, fail)", "nondet"},
		judged{"", "or(or(fail, true), fail)", "multi"},
		judged{"", "or([true, fail], [some'0, maybe'0])", "nondet"},
		judged{"", "[or(true, true), maybe'0]", "nondet"},
		judged{"int", "or(throw 0, fail)", "multi"},
		judged{"", "or(true)", "multi"},
		judged{"", "or(fail)", "nondet"},
		judged{"", "or()", "nondet"},
	)
}

// P9.1: SSwitch may what one of its goals may, and fail if a constructor is no case.
func TestInferSwitch(t *testing.T) {
	judges(t,
		judged{"list(t)", "switch 0 (nil/0: true; cons/2: true)", "det"},
		judged{"list(t)", "switch 0 (cons/2: true; nil/0: true)", "det"},
		judged{"list(T)", "switch 0 (cons/2: true; nil/0: true)", "det"},
		judged{"list(t)", "switch 0 (nil/0: true)", "semidet"},
		judged{"list(t)", "switch 0 (cons/2: true)", "semidet"},
		judged{"list(t)", "switch 0 ()", "semidet"},
		judged{"t", "switch 0 (a/0: true; b/0: true; f/1: true; g/2: true; a/1: true)", "det"},
		judged{"t", "switch 0 (a/1: true; g/2: true; a/0: true; f/1: true; b/0: true)", "det"},
		judged{"t", "switch 0 (a/0: true; b/0: true; f/1: true; g/2: true)", "semidet"},
		judged{"t", "switch 0 (b/0: true; f/1: true; g/2: true; a/1: true)", "semidet"},
		judged{"t", "switch 0 (a/0: true; b/0: true)", "semidet"},
		judged{"list(t)", "switch 0 (nil/0: maybe'0; cons/2: true)", "semidet"},
		judged{"list(t)", "switch 0 (nil/0: true; cons/2: maybe'0)", "semidet"},
		judged{"list(t)", "switch 0 (nil/0: some'0; cons/2: true)", "multi"},
		judged{"list(t)", "switch 0 (nil/0: true; cons/2: some'0)", "multi"},
		judged{"list(t)", "switch 0 (nil/0: maybe'0; cons/2: some'0)", "nondet"},
		judged{"list(t)", "switch 0 (nil/0: any'0; cons/2: once'0)", "nondet"},
		judged{"list(t)", "switch 0 (nil/0: or(true, fail))", "nondet"},
		judged{"list(t)", "switch 0 (nil/0: fail; cons/2: fail)", "semidet"},
		judged{"unit", "switch 0 (unit/0: match 0 unit)", "det"},
		// A constructor that is no case counts, also where another one is known.
		judged{"list(t)", "switch 0 (nil/0: [match 0 nil, switch 0 (nil/0: true)]; cons/2: true)", "semidet"},
		judged{"list(t)", "switch 0 (nil/0: switch 0 (nil/0: true); cons/2: true)", "semidet"},
	)
}

// P9.1: SNot and STry, whose goals must not be many, wherever they are.
func TestInferNotAndTry(t *testing.T) {
	judges(t,
		judged{"", "not(true)", "semidet"},
		judged{"", "not(fail)", "semidet"},
		judged{"", "not(not(true))", "semidet"},
		judged{"int", "try 0 (true, true)", "det"},
		judged{"int", "try 0 (maybe'0, true)", "semidet"},
		judged{"int", "try 0 (true, maybe'0)", "semidet"},
		judged{"int", "try 0 (fail, fail)", "semidet"},
		judged{"int", "try 0 (throw 0, throw 0)", "det"},
		judged{"int", "or(try 0 (true, fail), not(true))", "nondet"},
		judged{"int", "or(try 0 (true, true), not(true))", "multi"},
		judged{"t", "not(or(build 0 a, build 0 b))", ""},
		judged{"", "not(some'0)", ""},
		judged{"", "not(any'0)", ""},
		judged{"", "not([maybe'0, any'0])", ""},
		judged{"list(t)", "not(switch 0 (nil/0: true; cons/2: some'0))", ""},
		judged{"list(t)", "not(switch 0 (nil/0: maybe'0; cons/2: once'0))", "semidet"},
		judged{"int", "try 0 (some'0, true)", ""},
		judged{"int", "try 0 (true, some'0)", ""},
		judged{"int", "try 0 (any'0, true)", ""},
		judged{"int", "try 0 (true, any'0)", ""},
		judged{"int", "try 0 (or(true, fail), fail)", ""},
		// Within each kind of goal, at any place.
		judged{"", "[true, not(some'0), fail]", ""},
		judged{"", "or(true, not(some'0))", ""},
		judged{"", "or(fail, not(some'0), true)", ""},
		judged{"", "not(not(some'0))", ""},
		judged{"list(t)", "switch 0 (nil/0: not(some'0); cons/2: true)", ""},
		judged{"list(t)", "switch 0 (nil/0: true; cons/2: not(some'0))", ""},
		judged{"int", "try 0 (not(some'0), true)", ""},
		judged{"int", "try 0 (true, [once'0, not(some'0)])", ""},
		judged{"int", "[throw 0, not(some'0)]", ""},
		judged{"", "[fail, or([any'0, not([true, any'0])], true)]", ""},
		// What is many beside them matters not.
		judged{"int", "[not(true), some'0]", "nondet"},
		judged{"int", "[try 0 (true, true), some'0]", "multi"},
	)
}

// P9.1: Check by what is declared, where that is none of the four, too.
func TestCheck(t *testing.T) {
	_, x := read(t, declared)
	for _, c := range []struct{ goal, good string }{
		{"once'0", "det semidet multi nondet"},
		{"maybe'0", "semidet nondet"},
		{"some'0", "multi nondet"},
		{"any'0", "nondet"},
		{"not(some'0)", ""},
	} {
		held(t, c.goal, checked(t, c.goal, x, procOf(t, "", c.goal)), c.good)
	}
	for _, det := range []int{0, -1, 5} {
		p := procOf(t, "", "any'0")
		p.Det = det
		held(t, "declared as nothing", detism.Check(x, p), nil)
		p = procOf(t, "", "not(any'0)")
		p.Det = det
		held(t, "declared as nothing", detism.Check(x, p), api.ErrDet)
	}
}

// P9.1: Infer goes by the goal and the index alone: what is declared of the procedure itself counts where it is called.
func TestInferOfDeclared(t *testing.T) {
	items, x := read(t, declared+"pred p(list(t)). mode p(in) is nondet. p(nil). p(cons(_, L)) :- p(L).")
	p := detism.Switches(x, scheduled(t, items, x, key("p", 1), 0))
	for det, want := range map[int]string{api.Det: "det", api.Semidet: "semidet", api.Multi: "multi", api.Nondet: "nondet"} {
		x.Preds[len(x.Preds)-1].Modes[0].Det = det
		for own := range 6 {
			p.Det = own
			held(t, text(p.Goal), inferred(t, "p", x, p), want)
		}
	}
}

// P9.1: Switches of goals that no source has.
func TestSwitchesOfMade(t *testing.T) {
	_, x := read(t, declared)
	for _, c := range []struct{ goal, want string }{
		{"or()", ""},
		{"or(match 0 a)", ""},
		{"or([match 0 a, once'0])", ""},
		{"or(match 0 a, match 0 b, [])", ""},
		{"or([true, match 0 a], match 0 b)", ""},
		{"or([[match 0 a], once'0], match 0 b)", ""},
		{"or([match 0 a], [match 0 b])", "switch 0 (a/0: [match 0 a]; b/0: [match 0 b])"},
		{"or([match 1 a, [match 0 a]], [match 1 a, match 0 b])", ""},
		{"or(switch 0 (a/0: match 0 a; b/0: match 0 b), match 0 f 1)", ""},
		{"or([load 0 1, match 0 a], match 0 b)", ""},
		{"or(match 0 a, [build 0 b, match 0 b])", ""},
		{"or([match 1 f 0, match 0 a, match 0 a], match 0 b)", ""},
		{"or([match 0 a, match 1 f 0], match 0 b)", "switch 0 (a/0: [match 0 a, match 1 f 0]; b/0: match 0 b)"},
		{"or([match 0 a, match 1 f 0, match 0 b], [match 0 b, match 1 f 0])", "switch 0 (a/0: [match 0 a, match 1 f 0, match 0 b]; b/0: [match 0 b, match 1 f 0])"},
		// Its own arguments come behind the SMatch that asks.
		{"or(match 0 f 0, match 0 a)", "switch 0 (f/1: match 0 f 0; a/0: match 0 a)"},
		{"or([match 0 f 1, match 1 a], match 1 b)", ""},
		// A switch that is there stays; what is within is gone over.
		{"switch 0 (a/0: or(match 1 a, match 1 b); b/0: match 0 b)", "switch 0 (a/0: switch 1 (a/0: match 1 a; b/0: match 1 b); b/0: match 0 b)"},
		{"switch 0 (b/0: or(match 0 a, match 0 b))", "switch 0 (b/0: switch 0 (a/0: match 0 a; b/0: match 0 b))"},
		{"[true, [once'0, or(match 0 a, match 0 b)], not(try 1 (or(match 0 b, match 0 a), true))]",
			"[true, [once'0, switch 0 (a/0: match 0 a; b/0: match 0 b)], not(try 1 (switch 0 (b/0: match 0 b; a/0: match 0 a), true))]"},
	} {
		p := procOf(t, "t t t", c.goal)
		if c.want == "" {
			c.want = c.goal
		}
		got := detism.Switches(x, p)
		held(t, c.goal, text(got.Goal), c.want)
		p.Goal = got.Goal
		held(t, c.goal, got, p)
		// The index isn't asked for what a goal asks.
		held(t, c.goal, detism.Switches(api.Index{}, p), got)
	}
}

// P9.1: Find by each part of an id.
func TestFind(t *testing.T) {
	items, _ := read(t, appendSource+memberSource+evenSource)
	_, procs, err := detism.Compile(items)
	held(t, "examples", err, nil)
	for _, p := range procs {
		got, ok := detism.Find(procs, p.Id)
		held(t, form(p.Id), got, p)
		held(t, form(p.Id), ok, true)
	}
	for _, id := range []api.ProcId{
		{}, {Pred: key("append", 3), Mode: 2}, {Pred: key("append", 3), Mode: -1}, {Pred: key("append", 2)}, {Pred: key("appen", 3)}, {Pred: key("member", 2), Mode: 1}, {Pred: key("lt", 2)},
	} {
		got, ok := detism.Find(procs, id)
		held(t, form(id), got, api.Proc{})
		held(t, form(id), ok, false)
		got, ok = detism.Find(nil, id)
		held(t, form(id), got, api.Proc{})
		held(t, form(id), ok, false)
	}
	// The first one of two.
	twins := []api.Proc{{Vars: 1}, {Id: procs[0].Id, Vars: 2}, {Id: procs[0].Id, Vars: 3}}
	got, ok := detism.Find(twins, procs[0].Id)
	held(t, "twins", got.Vars, 2)
	held(t, "twins", ok, true)
	got, ok = detism.Find(twins, api.ProcId{})
	held(t, "the zero id", got.Vars, 1)
	held(t, "the zero id", ok, true)
}

// P9.1: Compile's procedures, in order: predicate by predicate, mode by mode, each with its switches, none of what is built in.
func TestCompile(t *testing.T) {
	text := "pred turn(t, t). type t = a | b. turn(a, b). mode turn(in, out) is det. mode turn(out, in) is det. turn(b, a).\n" +
		"mode turn(in, in) is semidet. pred none. mode none is semidet. pred yes. yes. mode yes is det."
	items, index := read(t, text)
	x, procs, err := detism.Compile(items)
	held(t, text, err, nil)
	held(t, text, x, index)
	var got []string
	for _, p := range procs {
		got = append(got, strings.Join([]string{p.Id.Pred.Name, form(p.Id.Mode), form(p.In), form(p.Det), textOf(p)}, " "))
	}
	held(t, text, strings.Join(got, "\n"), `turn 0 [true false] 1 switch 0 (a/0: [match 0 a, build 1 b]; b/0: [match 0 b, build 1 a])
turn 1 [false true] 1 switch 1 (b/0: [build 0 a, match 1 b]; a/0: [build 0 b, match 1 a])
turn 2 [true true] 2 switch 0 (a/0: [match 0 a, match 1 b]; b/0: [match 0 b, match 1 a])
none 0 [] 2 fail
yes 0 [] 1 true`)
	for i, p := range procs {
		mode := p.Id.Mode
		before := scheduled(t, items, index, p.Id.Pred, mode)
		before.Goal = p.Goal
		held(t, got[i], p, before)
	}
	// Nothing to compile.
	for _, text := range []string{"", "type t = a."} {
		items, index := read(t, text)
		x, procs, err := detism.Compile(items)
		held(t, text, err, nil)
		held(t, text, x, index)
		held(t, text, procs, []api.Proc(nil))
	}
}

// textOf is a procedure's goal as text.
func textOf(p api.Proc) string { return text(p.Goal) }

// P9.1: which error is the first: names of the whole source, then predicate by predicate, and in each mode by mode.
func TestFirstError(t *testing.T) {
	const (
		fine   = "pred q. mode q is det. q.\n"
		vars   = "pred v. mode v is det. v :- VARS.\n"
		types  = "pred y. mode y is det. y :- X = 1, X = a.\n"
		large  = "pred l. mode l is det. l :- TYPES.\n"
		modes  = "pred m(t). mode m(out) is det. m(_).\n"
		looks  = "pred k. mode k is det. k :- LOOKS.\n"
		det    = "pred d(t). mode d(in) is det. d(a).\n"
		not    = "pred o. mode o is nondet. o :- not twice.\n"
		names  = "pred n. mode n is det. n :- nosuch.\n"
		inOut  = "pred b(t). mode b(in) is det. mode b(out) is det. b(X) :- test(X).\n"
		outIn  = "pred c(t). mode c(out) is det. mode c(in) is det. c(X) :- test(X).\n"
		worse  = "pred w(t). mode w(in) is det. mode w(out) is det. w(X) :- test(X), Y = 1, Y = b.\n"
		worst  = "pred x(t). mode x(in) is det. mode x(out) is det. x(X) :- test(X), Y = 1, Y = b, VARS.\n"
		second = "pred s(t). mode s(in) is semidet. mode s(out) is det. s(a). s(b).\n"
	)
	for _, c := range []struct {
		source string
		want   error
	}{
		{fine, nil},
		{vars, api.ErrLarge},
		{types, api.ErrTypes},
		{large, api.ErrLarge},
		{modes, api.ErrModes},
		{looks, api.ErrLarge},
		{det, api.ErrDet},
		{not, api.ErrDet},
		{second, api.ErrDet},
		{names, api.ErrNames},
		{fine + det, api.ErrDet},
		{det + fine, api.ErrDet},
		// Names come first, wherever they are.
		{vars + types + modes + det + names, api.ErrNames},
		// Then the predicates in order, whatever is wrong.
		{vars + types + modes + det, api.ErrLarge},
		{types + vars + det + modes, api.ErrTypes},
		{types + det + vars + modes, api.ErrTypes},
		{large + modes + det, api.ErrLarge},
		{modes + vars + types + det, api.ErrModes},
		{modes + det + types, api.ErrModes},
		{looks + det + types + modes, api.ErrLarge},
		{det + modes + types + vars, api.ErrDet},
		{det + types + looks, api.ErrDet},
		{not + types + modes, api.ErrDet},
		{second + types, api.ErrDet},
		// In a predicate the number of variables comes first, then the types, then its modes in order.
		{worst, api.ErrLarge},
		{worse, api.ErrTypes},
		{inOut, api.ErrDet},
		{outIn, api.ErrModes},
	} {
		items, err := parse.Source(prelude() + filledIn(c.source))
		held(t, c.source, err, nil)
		if c.want != nil {
			refused(t, c.source, items, c.want)
			continue
		}
		_, _, err = detism.Compile(items)
		held(t, c.source, err, nil)
	}
}

// prelude is what the sources of the table use.
func prelude() string {
	return "type t = a | b. type p(A, B) = p(A, B). pred twice. mode twice is multi. twice. twice.\n" +
		"pred test(t). mode test(in) is semidet. test(a). pred q0. mode q0 is det. q0.\n"
}

// filledIn is a source with one variable, node of a type or look more than there may be.
func filledIn(source string) string {
	var vars, nodes []string
	for i := range api.MaxVars + 1 {
		vars = append(vars, fmt.Sprint("V", i, "=1"))
	}
	for i := range 8 {
		nodes = append(nodes, fmt.Sprint("V", i, "=p(V", i+1, ",V", i+1, ")"))
	}
	looks := strings.Repeat("q0,", 4000) + "q0"
	return strings.NewReplacer("VARS", strings.Join(vars, ","), "TYPES", strings.Join(nodes, ","), "LOOKS", looks).Replace(source)
}
