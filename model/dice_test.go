package model_test

import (
	"fmt"
	"math/rand"
	"slices"
	"strings"
	"testing"

	"augur/api"
	"augur/data"
	"augur/names"
	"augur/types"
	"augur/unify"
)

// dice throws sources.
type dice struct{ *rand.Rand }

func newDice(seed int64) dice { return dice{rand.New(rand.NewSource(seed))} }

func one[T any](d dice, list ...T) T { return list[d.Intn(len(list))] }

func repeated[T any](count int, make func() T) []T {
	var list []T
	for range count {
		list = append(list, make())
	}
	return list
}

// library stands ahead of thrown sources: types, and predicates that are compiled.
const library = `type t = a | b | f(t) | g(t, int) | h(t, t). type list(T) = nil | cons(T, list(T)).
pred two(int). mode two(in) is nondet. mode two(out) is multi. two(2). two(1).
pred pair(int, t). mode pair(in, in) is nondet. mode pair(in, out) is nondet. mode pair(out, in) is nondet. mode pair(out, out) is multi.
pair(2, b). pair(1, f(a)). pair(2, a). pair(1, f(a)). pair(0, X) :- X = g(a, 1).
pred wrap(t, t). mode wrap(in, in) is semidet. mode wrap(in, out) is det. mode wrap(out, in) is semidet. wrap(X, f(X)).
pred less(int, int). mode less(in, in) is semidet. less(X, Y) :- lt(X, Y).
pred risk(int, int). mode risk(in, out) is det. risk(X, Y) :- div(6, X, Y).
pred leaf(t). mode leaf(in) is semidet. leaf(a). leaf(b).
pred each(T, list(T)). mode each(out, in) is nondet. mode each(in, in) is nondet. each(X, cons(X, _)). each(X, cons(_, L)) :- each(X, L).
pred join(list(T), list(T), list(T)). mode join(in, in, out) is det. mode join(in, out, in) is semidet. mode join(out, out, in) is multi.
join(nil, L, L). join(cons(X, L), R, cons(X, S)) :- join(L, R, S).
pred climb(int, int). mode climb(in, in) is nondet. mode climb(in, out) is multi. climb(X, X). climb(X, Y) :- add(X, 1, Z), climb(Z, Y), lt(X, 3).
pred spine(t, int). mode spine(in, out) is det. spine(a, 0). spine(b, 0). spine(f(X), N) :- spine(X, M), add(M, 1, N). spine(g(X, _), N) :- spine(X, N). spine(h(X, _), N) :- spine(X, N).
`

// libraryPreds is how many predicates it has.
const libraryPreds = 10

// thrown is a predicate of a thrown source, with a mode.
type thrown struct {
	name  string
	types []string
	in    []bool
}

// ready is the predicates of the library, with each mode in which they are called on purpose.
func ready() []thrown {
	i, o := true, false
	return []thrown{
		{"two", []string{"int"}, []bool{o}}, {"pair", []string{"int", "t"}, []bool{o, i}}, {"pair", []string{"int", "t"}, []bool{i, o}},
		{"pair", []string{"int", "t"}, []bool{o, o}}, {"wrap", []string{"t", "t"}, []bool{i, o}}, {"wrap", []string{"t", "t"}, []bool{o, i}},
		{"less", []string{"int", "int"}, []bool{i, i}}, {"risk", []string{"int", "int"}, []bool{i, o}}, {"leaf", []string{"t"}, []bool{i}},
		{"each", []string{"int", "list(int)"}, []bool{o, i}}, {"each", []string{"t", "list(t)"}, []bool{o, i}},
		{"join", []string{"list(int)", "list(int)", "list(int)"}, []bool{i, i, o}}, {"join", []string{"list(int)", "list(int)", "list(int)"}, []bool{o, o, i}},
		{"spine", []string{"t", "int"}, []bool{i, o}}, {"climb", []string{"int", "int"}, []bool{i, o}},
	}
}

// clause throws the parts of a clause of few names, so that most variables occur often; in which modes its goals can be scheduled, if
// in any, isn't thought of.
type clause struct {
	dice
	preds []thrown
}

// variable is one of a type, mostly one of two.
func (c clause) variable(of string) string {
	switch of {
	case "int":
		return one(c.dice, "N", "N", "M", "M", "K")
	case "t":
		return one(c.dice, "X", "X", "Y", "Y", "Z")
	case "list(t)":
		return one(c.dice, "A", "B")
	}
	return one(c.dice, "L", "L", "R", "R", "S")
}

func (c clause) term(of string, depth int) string {
	if kind := c.Intn(12); kind == 0 {
		return "_"
	} else if kind < 8 || depth == 0 && of != "int" {
		return c.variable(of)
	}
	return c.shape(of, depth)
}

// shape is a term that is no variable.
func (c clause) shape(of string, depth int) string {
	if of == "int" {
		return fmt.Sprint(one(c.dice, 0, 1, 1, 2, 3, -1))
	}
	return c.made(of, func(arg string) string { return c.term(arg, depth-1) })
}

// shapes are the constructors of a type, with the types of their arguments.
func shapes(of string) [][]string {
	switch of {
	case "t":
		return [][]string{{"a"}, {"b"}, {"f", "t"}, {"g", "t", "int"}, {"h", "t", "t"}}
	case "list(int)":
		return [][]string{{"nil"}, {"cons", "int", "list(int)"}}
	}
	return [][]string{{"nil"}, {"cons", "t", "list(t)"}}
}

// made is a constructor of a type, with the arguments that part throws.
func (d dice) made(of string, part func(string) string) string {
	shape := one(d, shapes(of)...)
	var args []string
	for _, arg := range shape[1:] {
		args = append(args, part(arg))
	}
	return shape[0] + inside(args)
}

func (c clause) typ() string { return one(c.dice, "int", "int", "t", "t", "t", "list(int)") }

func (c clause) call() string {
	// The last one is the clause's own.
	p := one(c.dice, one(c.dice, c.preds...), one(c.dice, c.preds...), one(c.dice, c.preds...), c.preds[len(c.preds)-1])
	var args []string
	for _, of := range p.types {
		args = append(args, c.term(of, c.Intn(2)))
	}
	return p.name + inside(args)
}

// plain is a goal without goals within it.
func (c clause) plain() string {
	of := c.typ()
	switch c.Intn(12) {
	case 0, 1, 2, 3:
		return c.variable(of) + " = " + c.term(of, 2)
	case 4:
		return c.shape(of, 2) + " = " + c.term(of, 2)
	case 5:
		return one(c.dice, "add", "sub", "mul", "add", "div") + inside(repeated(3, func() string { return c.term("int", 0) }))
	case 6:
		return one(c.dice, "lt", "le") + inside(repeated(2, func() string { return c.term("int", 0) }))
	case 7:
		return one(c.dice, "true", "true", "fail", "throw "+c.term("int", 0), "throw N, N = "+c.shape("int", 0), "throw M, M = "+c.shape("int", 0))
	}
	return c.call()
}

func (c clause) goals(depth int) string {
	return strings.Join(repeated(one(c.dice, 1, 1, 2, 2, 3), func() string { return c.goal(depth) }), ", ")
}

func (c clause) goal(depth int) string {
	if depth == 0 || c.Intn(3) > 0 {
		return c.plain()
	}
	part := func() string { return "(" + c.goals(depth-1) + ")" }
	switch c.Intn(6) {
	case 0:
		return "not " + part()
	case 1:
		return "try " + part() + " catch " + one(c.dice, "E", "E", "N", "_") + " then " + part()
	case 2:
		return "not (" + c.variable("t") + " = " + c.term("t", 2) + ")"
	}
	return "(" + strings.Join(repeated(2+c.Intn(2), func() string { return c.goals(depth - 1) }), " ; ") + ")"
}

// clauses are those of the last predicate.
func (d dice) clauses(preds []thrown) string {
	c, p, text := clause{d, preds}, preds[len(preds)-1], ""
	for range one(d, 0, 1, 1, 1, 1, 2, 2, 3) {
		var args []string
		for _, of := range p.types {
			args = append(args, c.term(of, d.Intn(3)))
		}
		text += p.name + inside(args)
		if body := repeated(d.Intn(5), func() string { return c.goal(2) }); len(body) > 0 {
			text += " :- " + strings.Join(body, ", ")
		}
		text += ".\n"
	}
	return text
}

// next is a predicate that is thrown behind others.
func (d dice) next(preds []thrown) thrown {
	arity := one(d, 0, 1, 1, 2, 2, 2, 3)
	types := repeated(arity, func() string { return one(d, "int", "int", "t", "t", "t", "list(int)") })
	return thrown{fmt.Sprint("p", len(preds)), types, repeated(arity, func() bool { return d.Intn(3) > 0 })}
}

// modeText is a declared mode.
func (p thrown) modeText(in []bool, det int) string {
	var words []string
	for _, isIn := range in {
		words = append(words, map[bool]string{true: "in", false: "out"}[isIn])
	}
	return "mode " + p.name + inside(words) + " is " + []string{"", "det", "semidet", "multi", "nondet"}[det] + ".\n"
}

// ways are all that a mode of so many arguments may have, in a thrown order.
func (d dice) ways(arity int) [][]bool {
	var all [][]bool
	for number := range 1 << arity {
		var in []bool
		for i := range arity {
			in = append(in, number>>i&1 == 1)
		}
		all = append(all, in)
	}
	d.Shuffle(len(all), func(a, b int) { all[a], all[b] = all[b], all[a] })
	return all
}

// loose is a source of so many predicates behind the library, each with one or two modes, in which it may not be compiled.
func (d dice) loose(t *testing.T, count int) source {
	t.Helper()
	text, preds := library, ready()
	for range count {
		p := d.next(preds)
		preds = append(preds, p)
		text += "pred " + p.name + inside(p.types) + ".\n"
		for _, in := range d.ways(len(p.types))[:1+d.Intn(min(2, 1<<len(p.types)))] {
			text += p.modeText(in, api.Nondet)
		}
		text += d.clauses(preds)
	}
	s := read(t, text)
	if err := types.Check(s.items, s.x); err != nil {
		t.Fatalf("%s: %v", text, err)
	}
	return s
}

// call is a mode of one of the predicates behind the library, rather one with few inputs, and inputs.
func (d dice) call(s source) (api.ProcId, []api.Data) {
	own := slices.DeleteFunc(slices.Clone(s.x.Preds), func(p api.Pred) bool { return names.Builtin(p.Key) })
	p := one(d, own[libraryPreds:]...)
	mode, other := d.Intn(len(p.Modes)), d.Intn(len(p.Modes))
	if inputs(p.Modes[other].In) < inputs(p.Modes[mode].In) {
		mode = other
	}
	return api.ProcId{Pred: p.Key, Mode: mode}, d.inputs(s, p, p.Modes[mode].In)
}

// inputs is how many arguments are in.
func inputs(in []bool) int {
	count := 0
	for _, isIn := range in {
		if isIn {
			count++
		}
	}
	return count
}

// inputs are inputs of a predicate in a mode.
func (d dice) inputs(s source, p api.Pred, ways []bool) []api.Data {
	var in []api.Data
	for i, isIn := range ways {
		if isIn {
			in = append(in, one(d, data.Domain(s.x, unify.Instance(p.Types[i], nil), 1+d.Intn(3))...))
		}
	}
	return in
}
