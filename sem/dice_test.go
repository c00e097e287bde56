package sem_test

import (
	"fmt"
	"math/rand"
	"slices"
	"strings"
	"sync"
	"testing"

	"augur/api"
	"augur/data"
	"augur/detism"
	"augur/flat"
	"augur/modes"
	"augur/names"
	"augur/parse"
	"augur/types"
	"augur/unify"
)

// dice throws sources whose goals find their inputs and have their types, so that most of them are compiled.
type dice struct{ *rand.Rand }

func newDice(seed int64) dice { return dice{rand.New(rand.NewSource(seed))} }

func one[T any](d dice, list ...T) T { return list[d.Intn(len(list))] }

func repeated[T any](count int, make func() T) []T {
	var list []T
	for range count {
		list = append(list, make())
	}
	return list
}

// library stands ahead of thrown sources: types, and predicates that end.
const library = `type t = a | b | f(t) | g(t, int) | h(t, t). type list(T) = nil | cons(T, list(T)). type one = one(int, t).
pred from(int, int, int). mode from(in, in, out) is nondet. from(A, B, A) :- le(A, B). from(A, B, X) :- lt(A, B), add(A, 1, C), from(C, B, X).
pred risk(int, int). mode risk(in, out) is det. risk(X, Y) :- div(12, X, Y).
pred deep(t, t). mode deep(in, out) is multi. deep(X, X). deep(f(X), Y) :- deep(X, Y). deep(g(X, N), Y) :- deep(X, Y) ; throw N, Y = X.
pred ends(t). mode ends(in) is semidet. ends(a). ends(f(X)) :- ends(X).
pred each(list(T), T). mode each(in, out) is nondet. each(cons(X, _), X). each(cons(_, L), X) :- each(L, X).
pred grow(t, t). mode grow(in, out) is multi. grow(X, X). grow(X, Y) :- grow(h(X, X), Y).
`

// libraryProcs is how many procedures it has.
const libraryProcs = 6

// ready is the predicates of the library, as often as one of them is called.
func ready() []thrown {
	io, iio := []bool{true, false}, []bool{true, true, false}
	return []thrown{
		{"from", []string{"int", "int", "int"}, iio}, {"risk", []string{"int", "int"}, io}, {"risk", []string{"int", "int"}, io}, {"deep", []string{"t", "t"}, io},
		{"ends", []string{"t"}, io[:1]}, {"each", []string{"list(int)", "int"}, io}, {"each", []string{"list(t)", "t"}, io},
		{"grow", []string{"t", "t"}, io},
	}
}

func (d dice) typ() string {
	return one(d, "int", "int", "int", "t", "t", "t", "list(int)", "list(int)", "list(t)", "one")
}

// shapes are the constructors of a type, with the types of their arguments.
func shapes(of string) [][]string {
	switch of {
	case "t":
		return [][]string{{"a"}, {"b"}, {"f", "t"}, {"g", "t", "int"}, {"h", "t", "t"}}
	case "list(int)":
		return [][]string{{"nil"}, {"cons", "int", "list(int)"}, {"cons", "int", "list(int)"}}
	case "list(t)":
		return [][]string{{"nil"}, {"cons", "t", "list(t)"}, {"cons", "t", "list(t)"}}
	}
	return [][]string{{"one", "int", "t"}}
}

// thrown is a predicate of a thrown source.
type thrown struct {
	name  string
	types []string
	in    []bool
}

// clause is what is written so far of a clause: which variables are known.
type clause struct {
	dice
	preds []thrown
	known map[string][]string // by type
	count *int                // of all variables
}

func (c clause) fresh(of string) string {
	*c.count++
	v := fmt.Sprint("V", *c.count)
	c.known[of] = append(slices.Clip(c.known[of]), v)
	return v
}

// within is a part of a clause whose variables aren't known behind it.
func (c clause) within() clause {
	known := map[string][]string{}
	for of, list := range c.known {
		known[of] = slices.Clone(list)
	}
	c.known = known
	return c
}

// term is a term of variables that are known.
func (c clause) term(of string, depth int) string {
	if list := c.known[of]; len(list) > 0 && c.Intn(5) > 0 {
		return one(c.dice, list...)
	}
	if of == "int" {
		return c.literal()
	}
	all := shapes(of)
	if depth == 0 {
		all = all[:1]
	}
	return c.shape(one(c.dice, all...), func(arg string) string { return c.term(arg, depth-1) })
}

func (c clause) literal() string {
	if c.Intn(20) == 0 {
		return one(c.dice, "-1", "9223372036854775807", "-9223372036854775808")
	}
	return fmt.Sprint(c.Intn(6))
}

func (c clause) shape(shape []string, part func(string) string) string {
	var args []string
	for _, arg := range shape[1:] {
		args = append(args, part(arg))
	}
	return shape[0] + inside(args)
}

// pattern is a term of which parts become known.
func (c clause) pattern(of string, depth int) string {
	switch {
	case c.Intn(8) == 0:
		return "_"
	case depth == 0 || of == "int" && c.Intn(8) > 0 || c.Intn(4) == 0:
		return c.fresh(of)
	case of == "int":
		return fmt.Sprint(c.Intn(3))
	}
	return c.shape(one(c.dice, shapes(of)...), func(arg string) string { return c.pattern(arg, depth-1) })
}

// gives is goals that make a variable of a type known to those around them.
func (c clause) gives(v, of string, depth int) string {
	c = c.within()
	goals := repeated(c.Intn(3), func() string { return c.goal(depth) })
	goals = append(goals, v+" = "+c.term(of, 2))
	return strings.Join(goals, ", ")
}

func (c clause) goals(depth int) string {
	c = c.within()
	return strings.Join(repeated(1+c.Intn(2), func() string { return c.goal(depth) }), ", ")
}

// call is a call of a thrown predicate, where what is out is mostly new.
func (c clause) call() string {
	// The last one is the clause's own.
	p := one(c.dice, one(c.dice, c.preds...), one(c.dice, c.preds...), c.preds[len(c.preds)-1])
	var args []string
	for i, of := range p.types {
		if p.in[i] || c.Intn(6) == 0 {
			args = append(args, c.term(of, 2))
		} else {
			args = append(args, "")
		}
	}
	for i, of := range p.types {
		if args[i] == "" {
			args[i] = c.pattern(of, c.Intn(2))
		}
	}
	return p.name + inside(args)
}

func (c clause) reckoning() string {
	switch c.Intn(5) {
	case 0:
		return fmt.Sprint("lt(", c.term("int", 0), ", ", c.term("int", 0), ")")
	case 1:
		return fmt.Sprint("le(", c.term("int", 0), ", ", c.term("int", 0), ")")
	}
	a, b := c.term("int", 0), c.term("int", 0)
	return fmt.Sprint(one(c.dice, "add", "add", "sub", "sub", "mul", "div", "mod"), "(", a, ", ", b, ", ", c.pattern("int", 0), ")")
}

// plain is a goal without goals within it.
func (c clause) plain() string {
	of := c.typ()
	list := c.known[of]
	n := c.Intn(14)
	switch {
	case n < 3:
		t := c.term(of, 2)
		return c.fresh(of) + " = " + t
	case n < 5 && len(list) > 0:
		return one(c.dice, list...) + " = " + c.pattern(of, 2)
	case n == 5 && len(list) > 0:
		return one(c.dice, list...) + " = " + c.term(of, 1)
	case n < 8:
		return c.reckoning()
	case n == 8:
		return one(c.dice, "true", "true", "fail", "throw "+c.term("int", 0))
	}
	return c.call()
}

func (c clause) goal(depth int) string {
	if depth == 0 || c.Intn(3) > 0 {
		return c.plain()
	}
	depth--
	of := c.typ()
	switch c.Intn(7) {
	case 0:
		return "not (" + c.goals(depth*c.Intn(2)) + ")"
	case 1, 2, 3:
		return c.try(of, depth*c.Intn(2))
	case 4:
		return "(" + strings.Join(repeated(2+c.Intn(2), func() string { return c.goals(depth) }), " ; ") + ")"
	case 5:
		return c.cases(depth)
	}
	v := c.name()
	goal := "(" + strings.Join(repeated(2+c.Intn(2), func() string { return c.gives(v, of, depth) }), " ; ") + ")"
	c.known[of] = append(slices.Clip(c.known[of]), v)
	return goal
}

// try is an STry that gives a variable of a type a value; what is guarded raises often.
func (c clause) try(of string, depth int) string {
	v, e := c.name(), c.name()
	guarded, handler := c.within(), c.within()
	goal := "try (" + one(c.dice, "", "throw "+guarded.term("int", 0)+", ", "risk("+guarded.term("int", 0)+", "+guarded.fresh("int")+"), ")
	goal += guarded.gives(v, of, depth)
	handler.known["int"] = append(handler.known["int"], e)
	goal += ") catch " + e + " then (" + handler.gives(v, of, depth) + ")"
	c.known[of] = append(slices.Clip(c.known[of]), v)
	return goal
}

// name is a new variable that isn't known yet.
func (c clause) name() string {
	*c.count++
	return fmt.Sprint("V", *c.count)
}

// cases is goals that begin with different constructors of a variable that is known, and give one a value.
func (c clause) cases(depth int) string {
	of := c.typ()
	list := c.known[of]
	if of == "int" || len(list) == 0 {
		return c.plain()
	}
	x, v := one(c.dice, list...), c.name()
	var parts []string
	for _, shape := range shapes(of) {
		if c.Intn(8) > 0 {
			within := c.within()
			start := x + " = " + within.shape(shape, func(arg string) string { return within.pattern(arg, c.Intn(2)) })
			parts = append(parts, start+", "+within.gives(v, "int", depth))
		}
	}
	if len(parts) < 2 {
		return c.plain()
	}
	c.known["int"] = append(slices.Clip(c.known["int"]), v)
	return "(" + strings.Join(parts, " ; ") + ")"
}

// clauseText is a clause of the last predicate.
func (d dice) clauseText(preds []thrown, shape int) string {
	p, count := preds[len(preds)-1], 0
	c := clause{d, preds, map[string][]string{}, &count}
	args := make([]string, len(p.types))
	for i, of := range p.types {
		switch {
		case !p.in[i]:
		case shape >= 0 && of != "int":
			args[i] = c.shape(shapes(of)[shape%len(shapes(of))], func(arg string) string { return c.pattern(arg, d.Intn(2)) })
			shape = -1
		default:
			args[i] = c.pattern(of, one(d, 0, 0, 0, 0, 1, 2))
		}
	}
	body := repeated(d.Intn(6), func() string { return c.goal(2) })
	for i, of := range p.types {
		if !p.in[i] {
			args[i] = c.term(of, 2)
		}
	}
	d.Shuffle(len(body), func(a, b int) { body[a], body[b] = body[b], body[a] })
	text := p.name + inside(args)
	if len(body) > 0 {
		text += " :- " + strings.Join(body, ", ")
	}
	return text + ".\n"
}

// clauses are those of the last predicate; often there is one for each constructor of an argument.
func (d dice) clauses(preds []thrown) string {
	text, count := "", one(d, 1, 1, 1, 2, 2, 3, 4)
	byShape := d.Intn(2) == 0
	if byShape {
		count = 5
	}
	for at := range count {
		if !byShape {
			at = -1
		}
		text += d.clauseText(preds, at)
	}
	return text
}

// source is a source that is compiled, of so many predicates, each declared as strictly as it may be.
func (d dice) source(t *testing.T, count int) (string, program) {
	text, preds := library, ready()
	var p program
	for count += len(preds); len(preds) < count; {
		arity := one(d, 0, 1, 1, 2, 2, 2, 3)
		next := thrown{fmt.Sprint("p", len(preds)), repeated(arity, d.typ), repeated(arity, func() bool { return d.Intn(3) > 0 })}
		more := append(slices.Clip(preds), next)
		clauses := d.clauses(more)
		for _, det := range []string{"det", "semidet", "multi", "nondet"} {
			longer := text + "pred " + next.name + inside(next.types) + ".\n" + d.modes(next, det) + clauses
			if q, ok := compiles(t, longer); ok {
				text, preds, p = longer, more, q
				break
			}
		}
	}
	return text, p
}

// source is a thrown source that is compiled, also without switches.
type source struct {
	text    string
	program program
	plain   program
}

// sources are those that the tests hold promises against; they are thrown once.
func sources(t *testing.T) []source {
	t.Helper()
	thrownOnce.Do(func() {
		d := newDice(1)
		for range 300 {
			text, p := d.source(t, 1+d.Intn(4))
			thrownSources = append(thrownSources, source{text, p, program{p.x, unswitched(t, text)}})
		}
	})
	return thrownSources
}

var (
	thrownOnce    sync.Once
	thrownSources []source
)

// modes is the predicate's mode, and sometimes one in which all arguments are in.
func (d dice) modes(p thrown, det string) string {
	var words []string
	for _, isIn := range p.in {
		words = append(words, map[bool]string{true: "in", false: "out"}[isIn])
	}
	text := "mode " + p.name + inside(words) + " is " + det + ".\n"
	if d.Intn(4) == 0 && slices.Contains(p.in, false) {
		text += "mode " + p.name + inside(slices.Repeat([]string{"in"}, len(p.in))) + " is " + one(d, "semidet", "nondet") + ".\n"
	}
	return text
}

func compiles(t *testing.T, text string) (program, bool) {
	items, err := parse.Source(text)
	if err != nil {
		t.Fatalf("%s isn't parsed: %v", text, err)
	}
	x, procs, err := detism.Compile(items)
	return program{x, procs}, err == nil
}

// inputs are inputs of a procedure.
func (d dice) inputs(p program, proc api.Proc) []api.Data {
	var in []api.Data
	pred, _ := names.Pred(p.x, proc.Id.Pred)
	for i, isIn := range proc.In {
		if isIn {
			in = append(in, one(d, data.Domain(p.x, unify.Instance(pred.Types[i], nil), 2+d.Intn(3))...))
			if in[len(in)-1].Ctor == false {
				in[len(in)-1].Int = one(d, 0, 1, 2, 3, 5, -1, 1<<63-1, -1<<63)
			}
		}
	}
	return in
}

// unswitched is a source's procedures without their switches.
func unswitched(t *testing.T, text string) []api.Proc {
	t.Helper()
	items, err := parse.Source(text)
	if err != nil {
		t.Fatal(err)
	}
	x, err := names.Resolve(items)
	if err != nil {
		t.Fatal(err)
	}
	var procs []api.Proc
	for _, p := range x.Preds {
		if names.Builtin(p.Key) {
			continue
		}
		b, err := flat.Flatten(items, x, p.Key)
		if err != nil {
			t.Fatal(err)
		}
		list, err := types.Infer(x, b)
		if err != nil {
			t.Fatal(err)
		}
		for mode := range p.Modes {
			proc, err := modes.Schedule(x, b, list, mode)
			if err != nil {
				t.Fatal(err)
			}
			procs = append(procs, proc)
		}
	}
	return procs
}

// nested is a goal in which lists are within lists, also lists of a single goal, or of none.
func (d dice) nested(g api.Sched) api.Sched {
	var parts []api.Sched
	for _, part := range g.Goals {
		parts = append(parts, d.nested(part))
	}
	g.Goals = parts
	if g.Kind == api.SAnd && len(parts) > 1 {
		from := d.Intn(len(parts))
		to := from + d.Intn(len(parts)-from) + 1
		group := goal(api.SAnd, slices.Clone(parts[from:to])...)
		g.Goals = slices.Concat(parts[:from], []api.Sched{group}, parts[to:])
	}
	switch d.Intn(6) {
	case 0:
		return goal(api.SAnd, g)
	case 1:
		return goal(api.SAnd, goal(api.SAnd), g, goal(api.STrue))
	}
	return g
}
