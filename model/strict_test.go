package model_test

import (
	"fmt"
	"slices"
	"strings"
	"sync"
	"testing"

	"augur/api"
	"augur/detism"
)

// writer throws the parts of a clause whose goals find their inputs in the order in which they are thrown, and then shuffles them.
type writer struct {
	dice
	preds []thrown
	known map[string][]string // variables by type
	count *int                // of all variables
}

// within is a part of a clause whose variables aren't known behind it.
func (w writer) within() writer {
	known := map[string][]string{}
	for of, list := range w.known {
		known[of] = slices.Clone(list)
	}
	w.known = known
	return w
}

// name is a new variable that isn't known yet.
func (w writer) name() string {
	*w.count++
	return fmt.Sprint("V", *w.count)
}

func (w writer) learn(v, of string) string {
	w.known[of] = append(w.known[of], v)
	return v
}

// term is a term of variables that are known.
func (w writer) term(of string, depth int) string {
	switch list := w.known[of]; {
	case len(list) > 0 && w.Intn(5) > 0:
		return one(w.dice, list...)
	case of == "int":
		return fmt.Sprint(w.Intn(4))
	case depth == 0:
		return shapes(of)[0][0]
	}
	return w.made(of, func(arg string) string { return w.term(arg, depth-1) })
}

// pattern is a term of which parts become known.
func (w writer) pattern(of string, depth int) string {
	switch {
	case w.Intn(8) == 0:
		return "_"
	case depth == 0 || of == "int" && w.Intn(6) > 0 || w.Intn(3) == 0:
		return w.learn(w.name(), of)
	case of == "int":
		return fmt.Sprint(w.Intn(3))
	}
	return w.made(of, func(arg string) string { return w.pattern(arg, depth-1) })
}

// call is a call of a predicate, where what is out is mostly new.
func (w writer) call() string {
	p := one(w.dice, one(w.dice, w.preds...), one(w.dice, w.preds...), w.preds[len(w.preds)-1])
	args := make([]string, len(p.types))
	for i, of := range p.types {
		if p.in[i] || w.Intn(6) == 0 {
			args[i] = w.term(of, 2)
		}
	}
	for i, of := range p.types {
		if args[i] == "" {
			args[i] = w.pattern(of, w.Intn(2))
		}
	}
	return p.name + inside(args)
}

func (w writer) reckoning() string {
	a, b := w.term("int", 0), w.term("int", 0)
	if w.Intn(2) == 0 {
		return one(w.dice, "lt", "le") + inside([]string{a, b})
	}
	return one(w.dice, "add", "sub", "mul", "div", "mod", "add") + inside([]string{a, b, w.pattern("int", 0)})
}

// plain is a goal without goals within it.
func (w writer) plain() string {
	of := one(w.dice, "int", "int", "t", "t", "list(int)", "list(t)")
	list := w.known[of]
	switch n := w.Intn(13); {
	case n < 2:
		t := w.term(of, 2)
		return w.learn(w.name(), of) + " = " + t
	case n < 4 && len(list) > 0:
		return one(w.dice, list...) + " = " + w.pattern(of, 2)
	case n == 4 && len(list) > 0:
		return one(w.dice, list...) + " = " + w.term(of, 1)
	case n == 5:
		return w.reckoning()
	case n == 6 && w.Intn(2) == 0:
		// What comes behind a run's number that is raised comes ahead of it in a search.
		v := w.term("int", 0)
		return one(w.dice, "true", "throw "+v, "throw "+v+", "+v+" = "+fmt.Sprint(w.Intn(9)), "throw "+v+", fail")
	}
	return w.call()
}

// gives is goals that make a variable of a type known to those around them.
func (w writer) gives(v, of string, depth int) string {
	w = w.within()
	goals := repeated(w.Intn(3), func() string { return w.goal(depth) })
	goals = append(goals, v+" = "+w.term(of, 2))
	w.Shuffle(len(goals), func(a, b int) { goals[a], goals[b] = goals[b], goals[a] })
	return strings.Join(goals, ", ")
}

func (w writer) goal(depth int) string {
	if depth == 0 || w.Intn(3) > 0 {
		return w.plain()
	}
	of, v := one(w.dice, "int", "t", "list(int)"), w.name()
	switch w.Intn(6) {
	case 0:
		return "not (" + w.within().plain() + ")"
	case 1:
		return "not (" + w.within().plain() + ", " + w.within().reckoning() + ")"
	case 2:
		e, handler := w.name(), w.within()
		handler.learn(e, "int")
		goal := "try (" + w.gives(v, of, depth-1) + ") catch " + e + " then (" + handler.gives(v, of, depth-1) + ")"
		w.learn(v, of)
		return goal
	}
	goal := "(" + strings.Join(repeated(2+w.Intn(2), func() string { return w.gives(v, of, depth-1) }), " ; ") + ")"
	w.learn(v, of)
	return goal
}

// clausesOf are clauses of the last predicate.
func (d dice) clausesOf(preds []thrown) string {
	p, text := preds[len(preds)-1], ""
	for range one(d, 1, 1, 1, 2, 2, 3) {
		count := 0
		w := writer{d, preds, map[string][]string{}, &count}
		args := make([]string, len(p.types))
		for i, of := range p.types {
			if p.in[i] {
				args[i] = w.pattern(of, one(d, 0, 0, 0, 1))
			}
		}
		body := repeated(d.Intn(5), func() string { return w.goal(2) })
		for i, of := range p.types {
			if !p.in[i] {
				args[i] = w.term(of, 1)
			}
		}
		d.Shuffle(len(body), func(a, b int) { body[a], body[b] = body[b], body[a] })
		text += p.name + inside(args)
		if len(body) > 0 {
			text += " :- " + strings.Join(body, ", ")
		}
		text += ".\n"
	}
	return text
}

// strict is a source of so many predicates behind the library that is compiled: each has all modes in which it is.
func (d dice) strict(t *testing.T, count int) source {
	t.Helper()
	preds := ready()
	s := compiled(t, library)
	for count += len(preds); len(preds) < count; {
		p := d.next(preds)
		more := append(slices.Clip(preds), p)
		text := s.text + "pred " + p.name + inside(p.types) + ".\n" + d.clausesOf(more)
		modes, ok := s.mode(t, text, "", p, p.in)
		for _, in := range d.ways(len(p.types)) {
			if ok && !slices.Equal(in, p.in) {
				modes, _ = s.mode(t, text, modes, p, in)
			}
		}
		if ok {
			s, preds = compiled(t, text+modes), more
		}
	}
	return s
}

// mode adds a mode to those of the last predicate of a text, if it is compiled with it.
func (s source) mode(t *testing.T, text, modes string, p thrown, in []bool) (string, bool) {
	t.Helper()
	longer, err := compile(t, text+modes+p.modeText(in, api.Nondet))
	if err != nil {
		return modes, false
	}
	det, err := detism.Infer(longer.x, longer.procs[len(longer.procs)-1])
	if err != nil {
		t.Fatal(longer.text, err)
	}
	return modes + p.modeText(in, det), true
}

// strictSources are sources that are compiled, against which the tests hold promises; they are thrown once.
func strictSources(t *testing.T) []source {
	t.Helper()
	strictOnce.Do(func() {
		d := newDice(1)
		for range 250 {
			strictThrown = append(strictThrown, d.strict(t, 1+d.Intn(4)))
		}
	})
	return strictThrown
}

var (
	strictOnce   sync.Once
	strictThrown []source
)
