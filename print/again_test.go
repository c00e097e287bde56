package print_test

import (
	"math/rand"
	"reflect"
	"strings"
	"testing"

	"augur/api"
	"augur/parse"
	"augur/print"
)

// again holds what is parsed of a text's form against what is parsed of the text, and the form of that against the form.
func again[T any](t *testing.T, text string, parse func(string) (T, error), print func(T) string) bool {
	t.Helper()
	first, err := parse(text)
	if err != nil {
		return false
	}
	form := print(first)
	second, err := parse(form)
	if err != nil || !reflect.DeepEqual(first, second) {
		t.Errorf("%s is printed %s, which is parsed to %+v (%v), not %+v", short(text), short(form), second, err, first)
	} else {
		same(t, print(second), form)
	}
	return true
}

// sourceAgain is again for a source that layer 2 must parse.
func sourceAgain(t *testing.T, text string) {
	t.Helper()
	if !again(t, text, parse.Source, print.Source) {
		t.Errorf("%s isn't parsed", short(text))
	}
}

// P3.2: sources, and what they are printed as.
func TestSourcesAgain(t *testing.T) {
	for _, c := range []struct{ text, want string }{
		{"", ""},
		{" % nothing.\n", ""},
		{"p(X):-(q,r);s.", "p(X) :- q, r ; s.\n"},
		{"p:-(a;b),not(c,d).", "p :- (a ; b), not (c, d).\n"},
		{"p:-(a,b),c.", "p :- (a, b), c.\n"},
		{"p:-a,(b,c).", "p :- a, (b, c).\n"},
		{"p:-(a;b);c;(d;e).", "p :- (a ; b) ; c ; (d ; e).\n"},
		{"p:-a;b,c;d.", "p :- a ; b, c ; d.\n"},
		{"p:-(a;(b,c)),((d)).", "p :- (a ; b, c), d.\n"},
		{"p:-(((a))).", "p :- a.\n"},
		{"p:-((a,b)).", "p :- a, b.\n"},
		{"p:-true.", "p.\n"},
		{"p:-(true).", "p.\n"},
		{"p:-true,true.", "p :- true, true.\n"},
		{"p:-not not(not((a))),b.", "p :- not not not a, b.\n"},
		{"p:-not(a;b),not(X=Y).", "p :- not (a ; b), not X = Y.\n"},
		{"p:-not((a,b);c).", "p :- not (a, b ; c).\n"},
		{"p:-throw-5.", "p :- throw -5.\n"},
		{"p(X):-X=-5.", "p(X) :- X = -5.\n"},
		{"p(-1,f(-2)):-f(X)=X;5=a.", "p(-1, f(-2)) :- f(X) = X ; 5 = a.\n"},
		{"p:-try a catch E then b,c.", "p :- try a catch E then b, c.\n"},
		{"p:-try(a)catch E then(b,c).", "p :- try a catch E then (b, c).\n"},
		{"p:-try(a;b)catch _ then not(b;c).", "p :- try (a ; b) catch _ then not (b ; c).\n"},
		{"p:-try try a catch X then b catch Y then try c catch Z then d;e.", "p :- try try a catch X then b catch Y then try c catch Z then d ; e.\n"},
		{"type t=a.type t(A,_)=a|b(A,int)|c(t(A,t(int,_))).", "type t = a.\ntype t(A, _) = a | b(A, int) | c(t(A, t(int, _))).\n"},
		{"pred p.pred q(int,T,u,l(l(T),int)).", "pred p.\npred q(int, T, u, l(l(T), int)).\n"},
		{"mode p is det.mode p(in,out)is semidet.", "mode p is det.\nmode p(in, out) is semidet.\n"},
		{"mode p(out)is multi.mode p(in)is\tnondet.", "mode p(out) is multi.\nmode p(in) is nondet.\n"},
	} {
		items, err := parse.Source(c.text)
		if err != nil {
			t.Fatalf("%s: %v", short(c.text), err)
		}
		same(t, print.Source(items), c.want)
		sourceAgain(t, c.text)
	}
}

// smallGoals are all goals of layer 2 with these goals in them: single ones, and rows of two and three.
func smallGoals(parts []api.Goal) []api.Goal {
	goals := []api.Goal{of(api.GTrue), of(api.GFail), call("q"), call("q", number(-1), variable("X")),
		{Kind: api.GUnify, A: number(-1), B: made("f", variable("X"))}, {Kind: api.GThrow, A: number(-1)}}
	for _, a := range parts {
		goals = append(goals, of(api.GNot, a))
		for _, b := range parts {
			goals = append(goals, try("E", a, b), of(api.GAnd, a, b), of(api.GOr, a, b), of(api.GAnd, a, call("m"), b), of(api.GOr, a, call("m"), b))
		}
	}
	return goals
}

// P3.2: every small goal of layer 2 is what its form is parsed to, alone and as a body.
func TestSmallGoalsAgain(t *testing.T) {
	for _, g := range smallGoals(smallGoals([]api.Goal{call("q")})) {
		form := print.Goal(g)
		got, err := parse.Goal(form)
		if err != nil || !reflect.DeepEqual(got, g) {
			t.Fatalf("%s is parsed to %+v (%v), not %+v", short(form), got, err, g)
		}
		same(t, print.Goal(got), form)
		sourceAgain(t, "p:-"+form+".p(X):-("+form+").")
	}
}

// texts throws texts of layer 2's grammar: with parentheses that need not stand, and with gaps of all sorts.
type texts struct {
	*rand.Rand
	strings.Builder
}

func (x *texts) one(list ...string) string { return list[x.Intn(len(list))] }

func (x *texts) put(tokens ...string) {
	for _, tok := range tokens {
		x.WriteString(x.one(" ", "  ", "\n", "\t\r\n ", "% so.\n", " %\n% ) p :-\n"))
		x.WriteString(tok)
	}
}

func (x *texts) name() {
	x.put(x.one("a", "b_9", "ints", "notA", "p", "is_", strings.Repeat("z", api.MaxName)))
}
func (x *texts) variable() {
	x.put(x.one("X", "_", "_1", "In", "Det", strings.Repeat("Z", api.MaxName)))
}

func (x *texts) number() {
	x.put(x.one("0", "1", "-1", "10", "-907", "9223372036854775807", "-9223372036854775808"))
}

// row is one or more, with a mark between each two.
func (x *texts) row(mark string, most int, write func()) {
	write()
	for range x.Intn(most) {
		x.put(mark)
		write()
	}
}

// list is a list in parentheses, or nothing.
func (x *texts) list(most int, write func()) {
	if x.Intn(3) > 0 {
		x.put("(")
		x.row(",", most, write)
		x.put(")")
	}
}

func (x *texts) term(depth int) {
	switch x.Intn(4) {
	case 0:
		x.variable()
	case 1:
		x.number()
	default:
		x.name()
		if depth > 0 {
			x.list(3, func() { x.term(depth - 1) })
		}
	}
}

func (x *texts) typeExpr(depth int) {
	switch x.Intn(4) {
	case 0:
		x.variable()
	case 1:
		x.put("int")
	default:
		x.name()
		if depth > 0 {
			x.list(3, func() { x.typeExpr(depth - 1) })
		}
	}
}

func (x *texts) goal(depth int) {
	x.row(";", 3, func() { x.row(",", 3, func() { x.prim(depth) }) })
}

func (x *texts) prim(depth int) {
	kind := x.Intn(12)
	if depth == 0 {
		kind = x.Intn(6)
	}
	switch kind {
	case 0:
		x.put(x.one("true", "fail"))
	case 1:
		x.term(2)
		x.put("=")
		x.term(2)
	case 2:
		x.put("throw")
		x.term(2)
	case 3, 4, 5:
		x.name()
		x.list(api.MaxArity, func() { x.term(2) })
	case 6, 7:
		x.put("not")
		x.prim(depth - 1)
	case 8:
		x.put("try")
		x.prim(depth - 1)
		x.put("catch")
		x.variable()
		x.put("then")
		x.prim(depth - 1)
	default:
		x.put("(")
		x.goal(depth - 1)
		x.put(")")
	}
}

func (x *texts) item() {
	types := func() { x.list(api.MaxArity, func() { x.typeExpr(3) }) }
	switch x.Intn(6) {
	case 0:
		x.put("type")
		x.name()
		x.list(api.MaxArity, x.variable)
		x.put("=")
		x.row("|", 5, func() { x.name(); types() })
	case 1:
		x.put("pred")
		x.name()
		types()
	case 2:
		x.put("mode")
		x.name()
		x.list(api.MaxArity, func() { x.put(x.one("in", "out")) })
		x.put("is", x.one("det", "semidet", "multi", "nondet"))
	case 3:
		x.name()
		x.list(api.MaxArity, func() { x.term(4) })
	default:
		x.name()
		x.list(api.MaxArity, func() { x.term(2) })
		x.put(":-")
		x.goal(5)
	}
	x.put(".")
}

// P3.2: texts of all sorts that layer 2 parses, with many items, and of one term, goal or type each.
func TestTextsAgain(t *testing.T) {
	x := &texts{Rand: rand.New(rand.NewSource(3))}
	throw := func(write func()) string {
		x.Reset()
		write()
		return x.String()
	}
	for range 2000 {
		text := throw(func() {
			for range x.Intn(4) {
				x.item()
			}
		})
		if items, err := parse.Source(text); err == nil {
			same(t, print.Source(items), strings.Join(each(items, itemForm), ""))
			sourceAgain(t, text)
		} else if err != api.ErrLarge || len(text) <= api.MaxSource {
			t.Fatalf("%s: %v", short(text), err)
		}
		if text := throw(func() { x.term(5) }); !again(t, text, parse.Term, print.Term) {
			t.Fatalf("%s is no term", short(text))
		}
		if text := throw(func() { x.typeExpr(5) }); !again(t, text, parse.Type, print.Type) {
			t.Fatalf("%s is no type", short(text))
		}
		if text := throw(func() { x.goal(2) }); !again(t, text, parse.Goal, print.Goal) {
			t.Fatalf("%s is no goal", short(text))
		}
	}
}
