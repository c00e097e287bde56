package modes_test

import (
	"fmt"
	"slices"
	"strings"
	"testing"

	"augur/api"
	"augur/flat"
	"augur/modes"
	"augur/names"
	"augur/parse"
	"augur/types"
	"augur/unify"
)

// declared stands ahead of the predicate in the tables: what it may use, besides itself.
const declared = `type list(T) = nil | cons(T, list(T)).
type t = a | b | f(t) | g(t, t) | h(t, int, t).
pred q. mode q is det.
pred r(t). mode r(in) is semidet.
pred free(t). mode free(out) is nondet.
pred both(t). mode both(out) is multi. mode both(in) is det.
pred turn(t, t). mode turn(in, out) is det. mode turn(out, in) is multi.
pred back(t, t). mode back(out, in) is multi. mode back(in, out) is det. mode back(out, out) is nondet.
pred new(t, t). mode new(out, out) is nondet.
pred mix(t, int, t, list(t)). mode mix(in, out, out, out) is det. mode mix(out, out, in, out) is det.
pred cat(list(T), list(T), list(T)). mode cat(in, in, out) is det. mode cat(out, out, in) is multi.
pred none(t). mode none(in) is semidet. none(a).
`

// read is a text's items and their index.
func read(t *testing.T, text string) ([]api.Item, api.Index) {
	t.Helper()
	items, err := parse.Source(text)
	if err != nil {
		t.Fatalf("%.300s isn't parsed: %v", text, err)
	}
	x, err := names.Resolve(items)
	if err != nil {
		t.Fatalf("%.300s isn't well named: %v", text, err)
	}
	return items, x
}

func key(name string, arity int) api.Key { return api.Key{Name: name, Arity: arity} }

// form tells what is in a value, where nil and empty lists are the same.
func form(value any) string { return fmt.Sprintf("%+v", value) }

// held holds what was answered against what should be.
func held(t *testing.T, what string, got, want any) {
	t.Helper()
	if form(got) != form(want) {
		t.Errorf("%.600s:\n%.1500s, not\n%.1500s", what, form(got), form(want))
	}
}

// bodyOf is a predicate's body and its types.
func bodyOf(t *testing.T, items []api.Item, x api.Index, k api.Key) (api.Body, []api.Type) {
	t.Helper()
	b, err := flat.Flatten(items, x, k)
	if err != nil {
		t.Fatalf("%v: %v", k, err)
	}
	list, err := types.Infer(x, b)
	if err != nil {
		t.Fatalf("%v: %v", k, err)
	}
	return b, list
}

// row is numbers behind one another.
func row(list []int) string {
	var text strings.Builder
	for _, v := range list {
		fmt.Fprint(&text, " ", v)
	}
	return text.String()
}

// texts are goals as texts.
func texts(list []api.Sched) string {
	var all []string
	for _, s := range list {
		all = append(all, text(s))
	}
	return strings.Join(all, ", ")
}

// text is a goal as text. One that has something in a field that its kind has no use for is told whole.
func text(s api.Sched) string {
	told, own := "", api.Sched{Kind: s.Kind, X: s.X, Goals: s.Goals}
	switch s.Kind {
	case api.STrue:
		told, own.X, own.Goals = "true", 0, nil
	case api.SFail:
		told, own.X, own.Goals = "fail", 0, nil
	case api.SCopy:
		told, own.Y, own.Goals = fmt.Sprint("copy ", s.X, " ", s.Y), s.Y, nil
	case api.STest:
		told, own.Y, own.Goals = fmt.Sprint("test ", s.X, " ", s.Y), s.Y, nil
	case api.SLoad:
		told, own.Int, own.Goals = fmt.Sprint("load ", s.X, " ", s.Int), s.Int, nil
	case api.SIs:
		told, own.Int, own.Goals = fmt.Sprint("is ", s.X, " ", s.Int), s.Int, nil
	case api.SBuild:
		told, own.Ctor, own.Args, own.Goals = fmt.Sprint("build ", s.X, " ", s.Ctor.Name, row(s.Args)), key(s.Ctor.Name, len(s.Args)), s.Args, nil
	case api.SMatch:
		told, own.Ctor, own.Args, own.Goals = fmt.Sprint("match ", s.X, " ", s.Ctor.Name, row(s.Args)), key(s.Ctor.Name, len(s.Args)), s.Args, nil
	case api.SCall:
		told, own.X, own.Goals = fmt.Sprint(s.Proc.Pred.Name, "'", s.Proc.Mode, row(s.Args)), 0, nil
		own.Proc, own.Args = api.ProcId{Pred: key(s.Proc.Pred.Name, len(s.Args)), Mode: s.Proc.Mode}, s.Args
	case api.SThrow:
		told, own.Goals = fmt.Sprint("throw ", s.X), nil
	case api.SAnd:
		told, own.X = "["+texts(s.Goals)+"]", 0
	case api.SOr:
		told, own.X = "or("+texts(s.Goals)+")", 0
	case api.SNot:
		told, own.X = "not("+texts(s.Goals)+")", 0
	case api.STry:
		told = fmt.Sprint("try ", s.X, " (", texts(s.Goals), ")")
	}
	if form(s) != form(own) {
		return form(s)
	}
	return told
}

// typeTexts are types as texts.
func typeTexts(list []api.Type) string {
	var all []string
	for _, a := range list {
		all = append(all, unify.Text(a))
	}
	return strings.Join(all, " ")
}

// scheduled is a predicate p of these types, in a mode of these ways ("i" in, "o" out), with clauses: the types of its new
// variables, and its goal, or the error.
type scheduled struct {
	args, ways, clauses string
	added, goal         string
	err                 error
}

// source declares a predicate p with one mode.
func (r scheduled) source() string {
	args, ways := "", ""
	if r.args != "" {
		args = "(" + r.args + ")"
		ways = "(" + strings.NewReplacer("i", "in", "o", "out").Replace(strings.Join(strings.Split(r.ways, ""), ", ")) + ")"
	}
	return declared + "pred p" + args + ". mode p" + ways + " is semidet.\n" + r.clauses
}

// holds tries rows of a table.
func holds(t *testing.T, rows ...scheduled) {
	t.Helper()
	for _, r := range rows {
		items, x := read(t, r.source())
		k := key("p", len(r.ways))
		b, list := bodyOf(t, items, x, k)
		p, err := modes.Schedule(x, b, list, 0)
		what := r.args + " " + r.ways + " " + r.clauses
		held(t, what, err, r.err)
		if r.err != nil {
			held(t, what, p, api.Proc{})
			continue
		}
		held(t, what, text(p.Goal), r.goal)
		held(t, what, p.Id, api.ProcId{Pred: k})
		held(t, what, p.In, inOf(r.ways))
		held(t, what, p.Det, api.Semidet)
		held(t, what, len(p.Types), p.Vars)
		held(t, what, typeTexts(p.Types), strings.TrimSpace(typeTexts(list)+" "+r.added))
	}
}

// inOf is which of the ways are in.
func inOf(ways string) []bool {
	var in []bool
	for _, way := range ways {
		in = append(in, way == 'i')
	}
	return in
}

// good is a row without new variables, refused one with ErrModes.
func good(args, ways, clauses, goal string) scheduled {
	return scheduled{args, ways, clauses, "", goal, nil}
}

func refused(args, ways, clauses string) scheduled {
	return scheduled{args, ways, clauses, "", "", api.ErrModes}
}

const appendSource = `type list(T) = nil | cons(T, list(T)).
pred append(list(T), list(T), list(T)).
mode append(in, in, out) is det.
mode append(out, out, in) is multi.
append(nil, Y, Y).
append(cons(H, T), Y, cons(H, Z)) :- append(T, Y, Z).
`

// P8.1: the document's examples.
func TestExamples(t *testing.T) {
	items, x := read(t, appendSource)
	b, list := bodyOf(t, items, x, key("append", 3))
	for mode, want := range []string{
		"or([match 0 nil, copy 2 1], [match 0 cons 3 4, append'0 4 1 5, build 2 cons 3 5])",
		"or([build 0 nil, copy 1 2], [match 2 cons 3 5, append'1 4 1 5, build 0 cons 3 4])",
	} {
		p, err := modes.Schedule(x, b, list, mode)
		held(t, "append", err, nil)
		held(t, "append", text(p.Goal), want)
		held(t, "append", p, api.Proc{
			Id:    api.ProcId{Pred: key("append", 3), Mode: mode},
			In:    []bool{mode == 0, mode == 0, mode == 1},
			Det:   []int{api.Det, api.Multi}[mode],
			Types: list,
			Vars:  6,
			Goal:  p.Goal,
		})
	}
	holds(t, good("int", "o", "p(X) :- (X = 1 ; true), X = 2.", "[load 0 2, or(is 0 1, true)]"))
	// The whole's third example: a variable that nothing gives a value.
	items, x = read(t, strings.Replace(appendSource, "append(nil, Y, Y)", "append(nil, Y, Z)", 1))
	b, list = bodyOf(t, items, x, key("append", 3))
	p, err := modes.Schedule(x, b, list, 0)
	held(t, "append", err, api.ErrModes)
	held(t, "append", p, api.Proc{})
}

// P8.1: FTrue, FFail; wholes of lists; arguments that must get values, whatever fails.
func TestTrueAndFail(t *testing.T) {
	holds(t,
		good("", "", "p.", "true"),
		good("", "", "", "fail"),
		good("", "", "p :- true.", "true"),
		good("", "", "p :- fail.", "fail"),
		good("", "", "p :- q.", "q'0"),
		good("", "", "p :- q, p.", "[q'0, p'0]"),
		good("", "", "p :- true, q, true.", "q'0"),
		good("", "", "p :- fail, q.", "[fail, q'0]"),
		good("", "", "p. p :- fail. p :- q, fail.", "or(true, fail, [q'0, fail])"),
		good("t", "i", "p(_).", "true"),
		good("t", "i", "p(X) :- fail.", "fail"),
		refused("t", "o", ""),
		refused("t", "o", "p(_)."),
		refused("t", "o", "p(X) :- fail."),
		refused("t, t", "io", "p(_, _) :- fail."),
		refused("t, t", "oi", "p(_, _) :- fail."),
		refused("t", "o", "p(a). p(X) :- fail."),
		good("t", "o", "p(a). p(X) :- fail, X = b.", "or(build 0 a, [fail, build 0 b])"),
	)
}

// P8.1: FSame.
func TestSame(t *testing.T) {
	holds(t,
		good("t, t", "ii", "p(X, Y) :- X = Y.", "test 0 1"),
		good("t, t", "ii", "p(X, Y) :- Y = X.", "test 1 0"),
		good("t, t", "ii", "p(X, X).", "test 1 0"),
		good("t, t", "io", "p(X, Y) :- X = Y.", "copy 1 0"),
		good("t, t", "io", "p(X, Y) :- Y = X.", "copy 1 0"),
		good("t, t", "oi", "p(X, Y) :- X = Y.", "copy 0 1"),
		good("t, t", "oi", "p(X, Y) :- Y = X.", "copy 0 1"),
		refused("t, t", "oo", "p(X, Y) :- X = Y."),
		good("t, t", "oo", "p(X, Y) :- X = Y, Y = a.", "[build 1 a, copy 0 1]"),
		good("t, t", "oo", "p(X, Y) :- X = Y, X = a.", "[build 0 a, copy 1 0]"),
		good("t, t", "io", "p(X, Y) :- Z = Y, Z = X.", "[copy 2 0, copy 1 2]"),
		good("t, t", "io", "p(X, Y) :- X = Z, X = Y, Y = Z.", "[copy 2 0, copy 1 0, test 1 2]"),
		good("t", "i", "p(X) :- X = X.", "test 0 0"),
		refused("t", "o", "p(X) :- X = X."),
		good("t", "o", "p(X) :- X = X, X = a.", "[build 0 a, test 0 0]"),
		refused("", "", "p :- X = Y."),
		refused("", "", "p :- X = X."),
		refused("", "", "p :- X = Y, Y = Z, Z = X."),
	)
}

// P8.1: FInt.
func TestInt(t *testing.T) {
	holds(t,
		good("int", "i", "p(5).", "is 0 5"),
		good("int", "o", "p(5).", "load 0 5"),
		good("int", "o", "p(0).", "load 0 0"),
		good("int", "i", "p(-7).", "is 0 -7"),
		good("int", "o", "p(-7).", "load 0 -7"),
		good("int", "o", "p(X) :- X = 1, X = 2, X = 1.", "[load 0 1, is 0 2, is 0 1]"),
		good("", "", "p :- X = 1.", "load 0 1"),
		good("int, int", "oo", "p(X, Y) :- X = Y, X = 3, Y = 4.", "[load 0 3, copy 1 0, is 1 4]"),
		good("int, int", "oo", "p(X, Y) :- Y = 4, X = Y, X = 3.", "[load 1 4, copy 0 1, is 0 3]"),
	)
}

// P8.1: FCtor.
func TestCtor(t *testing.T) {
	holds(t,
		good("t", "i", "p(a).", "match 0 a"),
		good("t", "o", "p(a).", "build 0 a"),
		good("t", "i", "p(f(X)).", "match 0 f 1"),
		good("t", "i", "p(g(X, Y)).", "match 0 g 1 2"),
		good("t", "i", "p(h(f(b), 2, g(_, _))).", "[match 0 h 1 2 3, match 1 f 4, match 4 b, is 2 2, match 3 g 5 6]"),
		good("t", "o", "p(h(f(b), 2, a)).", "[build 4 b, build 1 f 4, load 2 2, build 3 a, build 0 h 1 2 3]"),
		refused("t", "o", "p(f(_))."),
		refused("t", "o", "p(g(a, _))."),
		refused("t", "o", "p(X) :- X = f(X)."),
		refused("", "", "p :- X = f(X)."),
		refused("", "", "p :- X = f(Y), Y = f(X)."),
		good("t, t", "io", "p(X, f(X)).", "build 1 f 0"),
		good("t, t", "oi", "p(X, f(X)).", "match 1 f 0"),
		good("t, t", "io", "p(X, g(X, X)).", "build 1 g 0 0"),
		good("t", "o", "p(X) :- X = f(Y), Y = a.", "[build 1 a, build 0 f 1]"),
		good("t", "o", "p(X) :- Y = a, X = f(Y), X = f(Z).", "[build 1 a, build 0 f 1, match 0 f 2]"),
		good("t", "o", "p(X) :- X = a, X = b.", "[build 0 a, match 0 b]"),
		// Arguments that have a value, or stand further left: new variables in their places.
		scheduled{"t, t", "ii", "p(X, f(X)).", "t", "[match 1 f 2, test 2 0]", nil},
		scheduled{"t", "i", "p(g(X, X)).", "t", "[match 0 g 1 2, test 2 1]", nil},
		scheduled{"t, t", "ii", "p(X, g(X, X)).", "t t", "[match 1 g 2 3, test 2 0, test 3 0]", nil},
		scheduled{"t, t", "ii", "p(X, g(Y, X)) :- r(Y).", "t", "[match 1 g 2 3, test 3 0, r'0 2]", nil},
		scheduled{"t, t", "ii", "p(X, g(X, Y)) :- r(Y).", "t", "[match 1 g 3 2, test 3 0, r'0 2]", nil},
		scheduled{"t", "i", "p(X) :- X = f(X).", "t", "[match 0 f 1, test 1 0]", nil},
		scheduled{"t", "i", "p(X) :- X = g(X, X).", "t t", "[match 0 g 1 2, test 1 0, test 2 0]", nil},
		scheduled{"t, int", "ii", "p(X, Y) :- X = h(Z, Y, Z).", "int t", "[match 0 h 2 3 4, test 3 1, test 4 2]", nil},
		scheduled{"t, int", "io", "p(X, Y) :- X = h(Z, Y, Z).", "t", "[match 0 h 2 1 3, test 3 2]", nil},
		scheduled{"list(T), T", "ii", "p(X, Y) :- X = cons(Y, Z).", "T", "[match 0 cons 3 2, test 3 1]", nil},
		scheduled{"list(T), list(T)", "ii", "p(X, Y) :- X = cons(_, Y).", "list(T)", "[match 0 cons 2 3, test 3 1]", nil},
		scheduled{"list(T), list(T)", "ii", "p(cons(X, Y), Z) :- Z = cons(X, Y).", "T list(T)", "[match 0 cons 2 3, match 1 cons 4 5, test 4 2, test 5 3]", nil},
		scheduled{"", "", "p :- X = nil, cat(X, X, Y), Y = cons(Z, X).", "list(?0)", "[build 0 nil, cat'0 0 0 1, match 1 cons 2 3, test 3 0]", nil},
	)
}

// P8.1: FCall.
func TestCall(t *testing.T) {
	holds(t,
		good("", "", "p :- q.", "q'0"),
		good("t", "i", "p(X) :- r(X).", "r'0 0"),
		refused("t", "o", "p(X) :- r(X)."),
		good("t", "o", "p(X) :- r(X), X = a.", "[build 0 a, r'0 0]"),
		good("t", "o", "p(X) :- free(X).", "free'0 0"),
		scheduled{"t", "i", "p(X) :- free(X).", "t", "[free'0 1, test 1 0]", nil},
		// The first mode whose inputs are there.
		good("t, t", "io", "p(X, Y) :- turn(X, Y).", "turn'0 0 1"),
		good("t, t", "oi", "p(X, Y) :- turn(X, Y).", "turn'1 0 1"),
		scheduled{"t, t", "ii", "p(X, Y) :- turn(X, Y).", "t", "[turn'0 0 2, test 2 1]", nil},
		refused("t, t", "oo", "p(X, Y) :- turn(X, Y)."),
		good("t, t", "io", "p(X, Y) :- back(X, Y).", "back'1 0 1"),
		good("t, t", "oi", "p(X, Y) :- back(X, Y).", "back'0 0 1"),
		scheduled{"t, t", "ii", "p(X, Y) :- back(X, Y).", "t", "[back'0 2 1, test 2 0]", nil},
		good("t, t", "oo", "p(X, Y) :- back(X, Y).", "back'2 0 1"),
		good("t, t", "oo", "p(X, Y) :- back(X, Y), X = a.", "[back'2 0 1, match 0 a]"),
		good("t, t", "oo", "p(X, Y) :- X = a, back(X, Y).", "[build 0 a, back'1 0 1]"),
		scheduled{"t", "i", "p(X) :- both(X).", "t", "[both'0 1, test 1 0]", nil},
		good("t", "o", "p(X) :- both(X).", "both'0 0"),
		// Arguments that are out and have a value, or stand further left.
		scheduled{"t", "o", "p(X) :- new(X, X).", "t", "[new'0 0 1, test 1 0]", nil},
		scheduled{"t", "i", "p(X) :- new(X, X).", "t t", "[new'0 1 2, test 1 0, test 2 0]", nil},
		scheduled{"t", "i", "p(X) :- turn(X, X).", "t", "[turn'0 0 1, test 1 0]", nil},
		refused("t", "o", "p(X) :- turn(X, X)."),
		scheduled{"t, t", "io", "p(X, Y) :- new(Y, X).", "t", "[new'0 1 2, test 2 0]", nil},
		scheduled{"t", "i", "p(X) :- mix(X, Y, X, Z).", "t", "[mix'0 0 1 3 2, test 3 0]", nil},
		scheduled{"t, int, list(t)", "iii", "p(X, Y, Z) :- mix(W, Y, X, Z).", "int list(t)", "[mix'1 3 4 0 5, test 4 1, test 5 2]", nil},
		scheduled{"t, int, list(t)", "iii", "p(X, Y, Z) :- mix(X, Y, X, Z).", "int t list(t)", "[mix'0 0 3 4 5, test 3 1, test 4 0, test 5 2]", nil},
		scheduled{"list(int)", "i", "p(X) :- cat(Y, Y, X).", "list(int)", "[cat'1 1 2 0, test 2 1]", nil},
		scheduled{"list(int)", "i", "p(X) :- cat(X, X, X).", "list(int)", "[cat'0 0 0 1, test 1 0]", nil},
		good("list(int)", "o", "p(X) :- cat(Y, Y, X), Y = nil.", "[build 1 nil, cat'0 1 1 0]"),
		// What is built in.
		good("int, int, int", "iio", "p(X, Y, Z) :- add(X, Y, Z).", "add'0 0 1 2"),
		scheduled{"int, int, int", "iii", "p(X, Y, Z) :- add(X, Y, Z).", "int", "[add'0 0 1 3, test 3 2]", nil},
		scheduled{"int", "i", "p(X) :- mul(X, X, X).", "int", "[mul'0 0 0 1, test 1 0]", nil},
		refused("int, int, int", "ioi", "p(X, Y, Z) :- sub(X, Y, Z)."),
		refused("int, int, int", "oii", "p(X, Y, Z) :- sub(X, Y, Z)."),
		good("int, int", "ii", "p(X, Y) :- lt(X, Y).", "lt'0 0 1"),
		good("int", "i", "p(X) :- le(X, X), lt(X, 3).", "[le'0 0 0, load 1 3, lt'0 0 1]"),
		refused("int, int", "io", "p(X, Y) :- lt(X, Y)."),
		refused("int, int", "oi", "p(X, Y) :- le(X, Y)."),
		// Itself, in the one mode that it has.
		good("t, t", "io", "p(X, Y) :- p(X, Y).", "p'0 0 1"),
		refused("t, t", "oi", "p(X, Y) :- p(X, X)."),
		scheduled{"t, t", "oi", "p(X, Y) :- p(Y, Z), X = Z, p(X, Y), p(W, X).", "t", "[p'0 0 1, copy 2 0, p'0 4 2, test 4 1, p'0 3 0]", nil},
		good("t, t", "io", "p(X, Y) :- p(Z, Y), p(X, Z).", "[p'0 0 2, p'0 2 1]"),
	)
}

// P8.1: FThrow, which gives nothing a value.
func TestThrow(t *testing.T) {
	holds(t,
		good("int", "i", "p(X) :- throw X.", "throw 0"),
		refused("int", "o", "p(X) :- throw X."),
		good("int", "o", "p(X) :- throw X, X = 1.", "[load 0 1, throw 0]"),
		good("", "", "p :- throw 7.", "[load 0 7, throw 0]"),
		refused("", "", "p :- throw _."),
		refused("t", "o", "p(X) :- throw 1."),
		good("t", "o", "p(X) :- throw 1, X = a.", "[load 1 1, throw 1, build 0 a]"),
	)
}

// P8.1: FNot: what is outside it must have a value, what is in it gets none outside.
func TestNot(t *testing.T) {
	holds(t,
		good("t", "i", "p(X) :- not X = a.", "not(match 0 a)"),
		good("t", "i", "p(X) :- not not r(X).", "not(not(r'0 0))"),
		good("", "", "p :- not true.", "not(true)"),
		good("", "", "p :- not fail.", "not(fail)"),
		good("t", "i", "p(X) :- not (r(X), q).", "not([r'0 0, q'0])"),
		good("t", "i", "p(X) :- not (q, X = Y, r(Y)).", "not([q'0, copy 1 0, r'0 1])"),
		good("t", "i", "p(X) :- not (r(Y), X = Y).", "not([copy 1 0, r'0 1])"),
		refused("t", "i", "p(X) :- not (r(X), r(Y))."),
		good("t", "i", "p(X) :- not free(Y).", "not(free'0 1)"),
		// Arguments are outside, whether they occur elsewhere or not.
		refused("t", "o", "p(X) :- not X = a."),
		refused("t", "o", "p(X) :- not free(X)."),
		refused("t", "o", "p(X) :- not (free(X), r(X))."),
		good("t", "o", "p(X) :- not X = a, X = b.", "[build 0 b, not(match 0 a)]"),
		good("t", "o", "p(X) :- not (X = Y, Y = a), X = b.", "[build 0 b, not([copy 1 0, match 1 a])]"),
		// Other variables are if they occur elsewhere: ahead, behind, or in another goal.
		good("", "", "p :- not X = a, X = b.", "[build 0 b, not(match 0 a)]"),
		good("", "", "p :- not X = a.", "not(build 0 a)"),
		good("", "", "p :- not (X = a, X = b).", "not([build 0 a, match 0 b])"),
		refused("", "", "p :- not X = a, not X = a."),
		refused("", "", "p :- not X = a, r(X)."),
		refused("", "", "p :- not free(X), not r(X)."),
		good("", "", "p :- not (X = a ; X = b).", "not(or(build 0 a, build 0 b))"),
		good("", "", "p :- not (X = a, not X = b).", "not([build 0 a, not(match 0 b)])"),
		good("", "", "p :- not (not X = b, X = a).", "not([build 0 a, not(match 0 b)])"),
		good("", "", "p :- not (not (X = b, X = a), not Y = a).", "not([not([build 0 b, match 0 a]), not(build 1 a)])"),
		refused("", "", "p :- not (not X = a, r(X))."),
		// What is new in it, and what gets a value in it, is of no use outside.
		scheduled{"t", "i", "p(X) :- not X = g(X, X).", "t t", "not([match 0 g 1 2, test 1 0, test 2 0])", nil},
		scheduled{"t", "i", "p(X) :- not X = f(X), X = g(X, X).", "t t t", "[not([match 0 f 1, test 1 0]), match 0 g 2 3, test 2 0, test 3 0]", nil},
		scheduled{"t", "o", "p(X) :- not X = f(X), X = a, X = f(X).", "t t", "[build 0 a, not([match 0 f 1, test 1 0]), match 0 f 2, test 2 0]", nil},
	)
}

// P8.1: FOr: each goal gives the same outside variables values.
func TestOr(t *testing.T) {
	holds(t,
		good("", "", "p :- (q ; true).", "or(q'0, true)"),
		good("", "", "p :- (q ; q, q ; fail), q.", "[or(q'0, [q'0, q'0], fail), q'0]"),
		good("t", "o", "p(a). p(b).", "or(build 0 a, build 0 b)"),
		good("t", "i", "p(a). p(b).", "or(match 0 a, match 0 b)"),
		good("t", "i", "p(a). p(X).", "or(match 0 a, true)"),
		refused("t", "o", "p(a). p(X)."),
		refused("t", "o", "p(X). p(a)."),
		refused("t", "o", "p(a). p(b). p(X) :- q."),
		good("t", "o", "p(a). p(b). p(X) :- free(X).", "or(build 0 a, build 0 b, free'0 0)"),
		refused("t, t", "oo", "p(X, Y) :- X = a ; Y = a."),
		refused("t, t", "oo", "p(X, Y) :- (X = a ; Y = a), (Y = b ; X = b)."),
		scheduled{"t, t", "oo", "p(X, Y) :- (X = a ; Y = a), free(X), (X = b ; Y = b), new(Y, X).", "t", "[free'0 0, new'0 1 2, test 2 0, or(match 0 a, match 1 a), or(match 0 b, match 1 b)]", nil},
		good("t, t", "oo", "p(X, Y) :- X = a, Y = b ; Y = f(X), X = b.", "or([build 0 a, build 1 b], [build 0 b, build 1 f 0])"),
		good("t, t", "oo", "p(X, Y) :- X = a, Y = b ; new(Y, X).", "or([build 0 a, build 1 b], new'0 1 0)"),
		good("t, t", "oo", "p(X, Y) :- (X = a ; X = b), Y = X.", "[or(build 0 a, build 0 b), copy 1 0]"),
		good("t, t", "oo", "p(X, Y) :- Y = X, (X = a ; X = b).", "[or(build 0 a, build 0 b), copy 1 0]"),
		good("t, t", "io", "p(X, Y) :- (Y = a ; Y = X).", "or(build 1 a, copy 1 0)"),
		// It waits until its goals can be scheduled, and until they give the same ones values.
		good("t, t", "oo", "p(X, Y) :- (r(X) ; q), new(X, Y).", "[new'0 0 1, or(r'0 0, q'0)]"),
		good("t, t", "oo", "p(X, Y) :- (q ; r(X)), new(X, Y).", "[new'0 0 1, or(q'0, r'0 0)]"),
		scheduled{"t, t", "oo", "p(X, Y) :- (free(X) ; q), new(X, Y).", "t", "[new'0 0 1, or([free'0 2, test 2 0], q'0)]", nil},
		scheduled{"t, t", "oo", "p(X, Y) :- (q ; free(X)), new(X, Y).", "t", "[new'0 0 1, or(q'0, [free'0 2, test 2 0])]", nil},
		// Variables that occur nowhere else may differ.
		good("", "", "p :- (X = a ; q).", "or(build 0 a, q'0)"),
		good("", "", "p :- (X = a ; X = b, r(X)).", "or(build 0 a, [build 0 b, r'0 0])"),
		good("", "", "p :- (X = a ; Y = b), (Z = a ; q).", "[or(build 0 a, build 1 b), or(build 2 a, q'0)]"),
		good("", "", "p :- X = b, (X = a ; Y = b).", "[build 0 b, or(match 0 a, build 1 b)]"),
		refused("", "", "p :- (X = a ; q), not X = b."),
		good("", "", "p :- (X = a ; X = b), not X = b.", "[or(build 0 a, build 0 b), not(match 0 b)]"),
		refused("", "", "p :- (X = a ; q), (X = b ; q)."),
		good("", "", "p :- (X = a ; X = f(a)), (X = b ; q).", "[or(build 0 a, [build 1 a, build 0 f 1]), or(match 0 b, q'0)]"),
		// Goals within goals.
		good("t", "o", "p(X) :- (X = a ; (X = b ; X = f(a))), q.", "[or(build 0 a, or(build 0 b, [build 1 a, build 0 f 1])), q'0]"),
		good("t", "o", "p(X) :- (Y = a ; Y = b), (X = Y ; X = f(Y)).", "[or(build 1 a, build 1 b), or(copy 0 1, build 0 f 1)]"),
		refused("t", "o", "p(X) :- (q, (X = a ; q) ; X = b)."),
		good("t", "o", "p(X) :- (q, ((X = a ; q), X = f(a)) ; X = b).", "or([q'0, build 1 a, build 0 f 1, or(match 0 a, q'0)], build 0 b)"),
		// New variables: those of goals that turn out not to be ready are none.
		scheduled{"t, t", "io", "p(X, Y) :- (X = f(X), r(Y) ; q), X = g(X, Y).", "t t", "[match 0 g 2 1, test 2 0, or([match 0 f 3, test 3 0, r'0 1], q'0)]", nil},
		scheduled{"t, t", "io", "p(X, Y) :- (X = f(X) ; r(Y)), X = g(X, Y).", "t t", "[match 0 g 2 1, test 2 0, or([match 0 f 3, test 3 0], r'0 1)]", nil},
		scheduled{"t, t", "io", "p(X, Y) :- (X = f(X) ; Y = a), X = g(X, Y).", "t t", "[match 0 g 2 1, test 2 0, or([match 0 f 3, test 3 0], match 1 a)]", nil},
		scheduled{"t", "i", "p(X) :- (X = f(X) ; X = g(X, X) ; r(X)), X = f(X).", "t t t t", "[or([match 0 f 1, test 1 0], [match 0 g 2 3, test 2 0, test 3 0], r'0 0), match 0 f 4, test 4 0]", nil},
	)
}

// P8.1: FTry.
func TestTry(t *testing.T) {
	holds(t,
		good("", "", "p :- try q catch E then p.", "try 0 (q'0, p'0)"),
		good("", "", "p :- try (q, p) catch _ then true.", "try 0 ([q'0, p'0], true)"),
		good("int", "o", "p(X) :- try X = 1 catch E then X = E.", "try 1 (load 0 1, copy 0 1)"),
		good("int", "o", "p(X) :- try X = 1 catch E then (lt(E, E), X = E).", "try 1 (load 0 1, [lt'0 1 1, copy 0 1])"),
		good("", "", "p :- try fail catch E then throw E.", "try 0 (fail, throw 0)"),
		good("int, int", "io", "p(X, Y) :- try div(1, X, Y) catch E then Y = E.", "try 2 ([load 3 1, div'0 3 0 1], copy 1 2)"),
		// X isn't ground: it is no argument, and occurs just here and in the second goal.
		refused("int", "o", "p(E) :- try q catch E then true."),
		refused("int", "o", "p(E) :- try q catch E then lt(E, E)."),
		refused("int", "o", "p(E) :- try q catch E then E = 1."),
		refused("", "", "p :- try lt(E, 1) catch E then q."),
		refused("", "", "p :- try throw E catch E then q."),
		refused("", "", "p :- try (q ; throw E) catch E then q."),
		good("", "", "p :- try q catch E then (throw E ; throw E).", "try 0 (q'0, or(throw 0, throw 0))"),
		good("", "", "p :- try q catch E then not lt(E, E).", "try 0 (q'0, not(lt'0 0 0))"),
		good("", "", "p :- try q catch E then (lt(E, E) ; q).", "try 0 (q'0, or(lt'0 0 0, q'0))"),
		refused("", "", "p :- try E = 1 catch E then q."),
		refused("", "", "p :- try E = 1 catch E then E = 2."),
		refused("", "", "p :- try q catch E then q, lt(E, E)."),
		refused("", "", "p :- (try q catch E then q ; lt(E, E))."),
		refused("", "", "p :- try q catch E then q, not E = 1."),
		refused("", "", "p :- try q catch E then q, try q catch E then q."),
		good("", "", "p :- try q catch E then q, try q catch F then q.", "[try 0 (q'0, q'0), try 1 (q'0, q'0)]"),
		refused("", "", "p :- try try q catch E then q catch E then q."),
		// X is ground: a new variable, and a test.
		scheduled{"int", "i", "p(E) :- try q catch E then true.", "int", "try 1 (q'0, test 1 0)", nil},
		scheduled{"int", "i", "p(E) :- try q catch E then p(E).", "int", "try 1 (q'0, [test 1 0, p'0 0])", nil},
		scheduled{"int", "i", "p(E) :- try q catch E then (q, q).", "int", "try 1 (q'0, [test 1 0, q'0, q'0])", nil},
		scheduled{"int", "i", "p(E) :- try lt(E, E) catch E then q.", "int", "try 1 (lt'0 0 0, [test 1 0, q'0])", nil},
		scheduled{"int", "o", "p(E) :- try q catch E then q, E = 3.", "int", "[load 0 3, try 1 (q'0, [test 1 0, q'0])]", nil},
		scheduled{"", "", "p :- try q catch E then q, E = 3.", "int", "[load 0 3, try 1 (q'0, [test 1 0, q'0])]", nil},
		scheduled{"", "", "p :- try q catch E then try q catch E then q.", "int", "try 0 (q'0, try 1 (q'0, [test 1 0, q'0]))", nil},
		scheduled{"", "", "p :- try E = 2 catch E then q, E = 3.", "int", "[load 0 3, try 1 (is 0 2, [test 1 0, q'0])]", nil},
		// New variables are numbered as they are created: the one for X behind those of its goals.
		scheduled{"int, t", "ii", "p(E, X) :- try X = f(X) catch E then X = g(X, X).", "t t t int", "try 5 ([match 1 f 2, test 2 1], [test 5 0, match 1 g 3 4, test 3 1, test 4 1])", nil},
		// Both give the same outside variables values.
		good("t", "o", "p(X) :- try X = a catch E then X = b.", "try 1 (build 0 a, build 0 b)"),
		refused("t", "o", "p(X) :- try X = a catch E then q."),
		refused("t", "o", "p(X) :- try q catch E then X = a."),
		refused("t, t", "oo", "p(X, Y) :- try X = a catch E then Y = a."),
		good("t", "o", "p(X) :- try X = a catch E then q, X = b.", "[build 0 b, try 1 (match 0 a, q'0)]"),
		good("t", "o", "p(X) :- try q catch E then X = a, X = b.", "[build 0 b, try 1 (q'0, match 0 a)]"),
		good("t, t", "oo", "p(X, Y) :- Y = X, try X = a catch E then free(X).", "[try 2 (build 0 a, free'0 0), copy 1 0]"),
		good("", "", "p :- try X = a catch E then q.", "try 0 (build 1 a, q'0)"),
		good("", "", "p :- try q catch E then X = a.", "try 0 (q'0, build 1 a)"),
		good("", "", "p :- try X = a catch E then X = b.", "try 0 (build 1 a, build 1 b)"),
		refused("t", "o", "p(X) :- try X = a catch _ then fail."),
		// It waits until its goals can be scheduled.
		good("t", "o", "p(X) :- try r(X) catch E then q, X = a.", "[build 0 a, try 1 (r'0 0, q'0)]"),
		good("t", "o", "p(X) :- try q catch E then r(X), X = a.", "[build 0 a, try 1 (q'0, r'0 0)]"),
		refused("", "", "p :- try r(X) catch E then X = a."),
		refused("", "", "p :- try X = a catch E then r(X)."),
		refused("", "", "p :- try (q, r(X)) catch E then true."),
		scheduled{"t, t", "io", "p(X, Y) :- try X = f(X) catch E then r(Y), X = g(X, Y).", "t t", "[match 0 g 3 1, test 3 0, try 2 ([match 0 f 4, test 4 0], r'0 1)]", nil},
		scheduled{"t, t", "io", "p(X, Y) :- try X = f(X) catch E then Y = a, X = g(X, Y).", "t t", "[match 0 g 3 1, test 3 0, try 2 ([match 0 f 4, test 4 0], match 1 a)]", nil},
		// One that sees what is raised to be something that has a value further on.
		scheduled{"int, int", "oo", "p(X, Y) :- try throw Y catch X then Y = 2, Y = 1, X = Y.", "int", "[load 1 1, copy 0 1, try 2 (throw 1, [test 2 0, is 1 2])]", nil},
	)
}

// P8.1: the first ready goal is taken, and then the first one again.
func TestOrder(t *testing.T) {
	holds(t,
		good("t", "i", "p(X) :- r(W), r(Z), Z = Y, r(Y), Y = X, W = Z, q.", "[copy 3 0, copy 2 3, r'0 2, r'0 3, copy 1 2, r'0 1, q'0]"),
		good("int, int", "io", "p(X, Y) :- mul(A, B, Y), sub(C, X, B), add(X, X, A), add(A, X, C).", "[add'0 0 0 2, add'0 2 0 4, sub'0 4 0 3, mul'0 2 3 1]"),
		good("t", "o", "p(X) :- r(X), (r(X) ; q), not r(X), X = f(Y), q, r(Y), Y = f(Z), q, Z = a.", "[q'0, q'0, build 2 a, build 1 f 2, build 0 f 1, r'0 0, or(r'0 0, q'0), not(r'0 0), r'0 1]"),
	)
}

// P8.1: which mode, and which predicate.
func TestErrNone(t *testing.T) {
	items, x := read(t, appendSource)
	b, list := bodyOf(t, items, x, key("append", 3))
	try := func(x api.Index, pred api.Key, mode int, want error) {
		t.Helper()
		other := b
		other.Pred = pred
		p, err := modes.Schedule(x, other, list, mode)
		held(t, fmt.Sprint(pred, mode), err, want)
		if want != nil {
			held(t, fmt.Sprint(pred, mode), p, api.Proc{})
		}
	}
	for _, mode := range []int{-1, 2, 3, -1 << 63, 1<<63 - 1} {
		try(x, b.Pred, mode, api.ErrNone)
	}
	for _, pred := range []api.Key{{}, key("append", 2), key("append", 4), key("appen", 3), key("add", 3), key("lt", 2), key("append", -3)} {
		try(x, pred, 0, api.ErrNone)
		try(x, pred, 1, api.ErrNone)
	}
	try(api.Index{}, b.Pred, 0, api.ErrNone)
	none := x
	none.Preds = slices.Clone(x.Preds)
	none.Preds[7].Modes = nil
	try(none, b.Pred, 0, api.ErrNone)
	try(x, b.Pred, 0, nil)
	try(x, b.Pred, 1, nil)
	// It is the first of all: also where the body can't be scheduled.
	items, x = read(t, "pred p(int). mode p(out) is det. p(X) :- lt(X, X).")
	b, list = bodyOf(t, items, x, key("p", 1))
	try(x, b.Pred, 0, api.ErrModes)
	try(x, b.Pred, 1, api.ErrNone)
}

// P8.1: an index with further modes: of the predicate, of others, and of what is built in.
func TestFurtherModes(t *testing.T) {
	items, x := read(t, declared+"pred p(int, int). mode p(in, out) is semidet. p(X, Y) :- sub(Y, 1, X), turn(A, B), free(A).")
	b, list := bodyOf(t, items, x, key("p", 2))
	with := func(modes ...api.Mode) api.Index {
		more := x
		more.Preds = slices.Clone(x.Preds)
		for i, p := range more.Preds {
			switch p.Key.Name {
			case "sub":
				more.Preds[i].Modes = append(slices.Clone(p.Modes), modes...)
			case "p":
				more.Preds[i].Modes = append(slices.Clone(p.Modes), api.Mode{In: []bool{false, true}, Det: api.Multi}, api.Mode{In: []bool{false, false}, Det: api.Nondet}, api.Mode{In: []bool{true, true}, Det: api.Det})
			case "turn":
				more.Preds[i].Modes = slices.Insert(slices.Clone(p.Modes), 0, api.Mode{In: []bool{true, true}, Det: api.Det}, api.Mode{In: []bool{false, false}, Det: api.Nondet})
			}
		}
		return more
	}
	tell := func(x api.Index, mode int) string {
		p, err := modes.Schedule(x, b, list, mode)
		if err != nil {
			held(t, "further modes", p, api.Proc{})
			return err.Error()
		}
		held(t, "further modes", p.Id, api.ProcId{Pred: key("p", 2), Mode: mode})
		return fmt.Sprint(p.In, p.Det, " ", text(p.Goal))
	}
	held(t, "given", tell(x, 0), "augur: modes")
	held(t, "given", tell(x, 1), "augur: none")
	more := with()
	held(t, "of p", tell(more, 0), "augur: modes")
	held(t, "of p", tell(more, 1), "[false true] 3 [load 2 1, sub'0 1 2 0, turn'1 3 4, free'0 5, test 5 3]")
	held(t, "of p", tell(more, 2), "augur: modes")
	held(t, "of p", tell(more, 3), "[true true] 1 [load 2 1, sub'0 1 2 5, test 5 0, turn'1 3 4, free'0 6, test 6 3]")
	held(t, "of p", tell(more, 4), "augur: none")
	more = with(api.Mode{In: []bool{false, false, false}, Det: api.Nondet}, api.Mode{In: []bool{false, true, true}, Det: api.Det})
	held(t, "of sub", tell(more, 0), "[true false] 2 [load 2 1, sub'1 1 5 6, test 5 2, test 6 0, turn'1 3 4, free'0 7, test 7 3]")
	more = with(api.Mode{In: []bool{false, true, true}, Det: api.Det}, api.Mode{In: []bool{false, false, false}, Det: api.Nondet})
	held(t, "of sub", tell(more, 0), "[true false] 2 [load 2 1, sub'1 1 2 0, turn'1 3 4, free'0 5, test 5 3]")
	held(t, "of sub", tell(more, 2), "[false false] 4 [load 2 1, sub'2 1 5 0, test 5 2, turn'1 3 4, free'0 6, test 6 3]")
	held(t, "of sub", tell(more, 3), "[true true] 1 [load 2 1, sub'0 1 2 5, test 5 0, turn'1 3 4, free'0 6, test 6 3]")
}

// P8.1: goals in another order, and with FTrues between, also where a goal was alone.
func TestTruesBetween(t *testing.T) {
	items, x := read(t, declared+"pred p(t, t). mode p(in, out) is det. p(X, Y) :- (r(X) ; q, q), not r(X), try Y = a catch E then Y = b.")
	b, list := bodyOf(t, items, x, key("p", 2))
	want := "[or(r'0 0, [q'0, q'0]), not(r'0 0), try 2 (build 1 a, build 1 b)]"
	yes := api.Flat{Kind: api.FTrue}
	var between func(f api.Flat) api.Flat
	between = func(f api.Flat) api.Flat {
		if f.Kind != api.FAnd {
			f = api.Flat{Kind: api.FAnd, Goals: []api.Flat{f}}
		}
		goals := []api.Flat{yes}
		for _, g := range f.Goals {
			var within []api.Flat
			for _, part := range g.Goals {
				within = append(within, between(part))
			}
			g.Goals = within
			goals = append(goals, g, yes, yes)
		}
		return api.Flat{Kind: api.FAnd, Goals: goals}
	}
	p, err := modes.Schedule(x, b, list, 0)
	held(t, "without", err, nil)
	held(t, "without", text(p.Goal), want)
	b.Goal = between(b.Goal)
	p, err = modes.Schedule(x, b, list, 0)
	held(t, "with", err, nil)
	held(t, "with", text(p.Goal), want)
	slices.Reverse(b.Goal.Goals)
	p, err = modes.Schedule(x, b, list, 0)
	held(t, "back to front", err, nil)
	held(t, "back to front", text(p.Goal), "[try 2 (build 1 a, build 1 b), not(r'0 0), or(r'0 0, [q'0, q'0])]")
}
