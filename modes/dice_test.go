package modes_test

import (
	"fmt"
	"math/rand"
	"slices"
	"strings"
	"testing"

	"augur/api"
	"augur/flat"
	"augur/types"
)

// dice throws sources, whose goals are well typed, and other forms of their bodies.
type dice struct{ *rand.Rand }

func one[T any](d dice, list ...T) T { return list[d.Intn(len(list))] }

// variable is one of few of its type, so that most occur often.
func (d dice) variable(of string) string {
	if d.Intn(12) == 0 {
		return "_"
	}
	switch of {
	case "t":
		return fmt.Sprint("T", d.Intn(5))
	case "int":
		return fmt.Sprint("I", d.Intn(3))
	}
	return fmt.Sprint("L", d.Intn(3))
}

// term is a term of a type.
func (d dice) term(of string, depth int) string {
	if depth == 0 || d.Intn(2) == 0 {
		return d.variable(of)
	}
	within := func(of string) string { return d.term(of, depth-1) }
	switch of {
	case "t":
		switch d.Intn(6) {
		case 0:
			return "f(" + within("t") + ")"
		case 1, 2:
			return "g(" + within("t") + ", " + within("t") + ")"
		case 3:
			return "h(" + within("t") + ", " + within("int") + ", " + within("t") + ")"
		}
		return one(d, "a", "b")
	case "int":
		return fmt.Sprint(d.Intn(5) - 2)
	}
	return one(d, "nil", "cons("+within("t")+", "+within("list(t)")+")")
}

// callable is the predicates of the prelude, and some that are built in, with the types of their arguments.
func callable() []string {
	return []string{"q", "r t", "r t", "free t", "both t", "turn t t", "turn t t", "back t t", "new t t", "mix t int t list(t)",
		"cat list(t) list(t) list(t)", "none t", "add int int int", "mod int int int", "lt int int"}
}

// call is a call of a predicate of these types; p is one more.
func (d dice) call(p string) string {
	words := strings.Fields(one(d, append(callable(), p, p)...))
	return words[0] + d.terms(words[1:], one(d, 0, 0, 0, 1))
}

func (d dice) terms(list []string, depth int) string {
	var made []string
	for _, of := range list {
		made = append(made, d.term(of, depth))
	}
	if len(made) == 0 {
		return ""
	}
	return "(" + strings.Join(made, ", ") + ")"
}

// goals are goals in parentheses, if they are several.
func (d dice) goals(p string, depth int) string {
	var list []string
	for range 1 + d.Intn(3) {
		list = append(list, d.goal(p, depth))
	}
	return "(" + strings.Join(list, ", ") + ")"
}

func (d dice) goal(p string, depth int) string {
	if depth > 0 && d.Intn(3) == 0 {
		within := func() string { return d.goals(p, depth-1) }
		switch d.Intn(6) {
		case 0:
			return "not " + within()
		case 1, 2:
			return "(" + within() + " ; " + within() + ")"
		case 3:
			return "(" + within() + " ; " + within() + " ; " + within() + ")"
		}
		return "try " + within() + " catch " + one(d, "E", "F", d.variable("int")) + " then " + within()
	}
	of := one(d, "t", "t", "t", "int", "list(t)")
	switch d.Intn(8) {
	case 0:
		return one(d, "true", "fail", "throw "+d.term("int", 1))
	case 1:
		return d.variable(of) + " = " + d.variable(of)
	case 2, 3, 4:
		return d.variable(of) + " = " + d.term(of, 2)
	}
	return d.call(p)
}

// clause is goals, among them, of some clauses, such that give variables values.
func (d dice) clause(p string, goals int) []string {
	list := []string{"true"}
	for range d.Intn(goals + 1) {
		list = append(list, d.goal(p, 2))
	}
	gives := []string{"free(T0)", "T1 = a", "T2 = T1", "new(T3, T4)", "T4 = f(T0)", "I0 = 1", "I1 = I0", "I2 = 2", "L0 = nil", "L1 = cons(T1, L0)", "L2 = nil", "E = 1"}
	often := one(d, 2, 2, 3, 10, 99)
	for _, g := range gives {
		if d.Intn(often) != 0 && often < 99 {
			list = slices.Insert(list, d.Intn(len(list)+1), g)
		}
	}
	return list
}

// source declares a predicate p with all modes, in some order, with clauses.
func (d dice) source(goals int) string {
	var args []string
	for range d.Intn(4) {
		args = append(args, one(d, "t", "t", "int", "list(t)"))
	}
	list := func(of []string) string {
		if len(of) == 0 {
			return ""
		}
		return "(" + strings.Join(of, ", ") + ")"
	}
	text := declared + "pred p" + list(args) + ".\n"
	for _, mode := range d.Perm(1 << len(args)) {
		var ways []string
		for i := range args {
			ways = append(ways, []string{"in", "out"}[mode>>i&1])
		}
		text += "mode p" + list(ways) + " is " + one(d, "det", "semidet", "multi", "nondet") + ".\n"
	}
	p := strings.Join(append([]string{"p"}, args...), " ")
	for range one(d, 0, 1, 1, 1, 1, 1, 2, 2, 3) {
		text += "p" + d.terms(args, one(d, 0, 0, 1, 2)) + " :- " + strings.Join(d.clause(p, goals), ", ") + ".\n"
	}
	return text
}

// body is a thrown body: its predicate is p, and x is its index.
type body struct {
	api.Body
	text string
	x    api.Index
	list []api.Type
}

// modes is how many modes p has.
func (b body) modes() int {
	for _, p := range b.x.Preds {
		if p.Key == b.Pred {
			return len(p.Modes)
		}
	}
	return 0
}

// thrown calls what to do with each of many bodies. Their clauses have few goals each.
func thrown(t *testing.T, seed int64, count, goals int, look func(d dice, b body)) {
	t.Helper()
	d := dice{rand.New(rand.NewSource(seed))}
	for range count {
		text := d.source(goals)
		items, x := read(t, text)
		for _, p := range x.Preds {
			if p.Key.Name != "p" {
				continue
			}
			b, err := flat.Flatten(items, x, p.Key)
			if err != nil {
				t.Fatalf("%s: %v", text, err)
			}
			list, err := types.Infer(x, b)
			if err != nil {
				t.Fatalf("%s: %v", text, err)
			}
			look(d, body{b, strings.TrimPrefix(text, declared), x, list})
		}
	}
}

// other is a body with its goals in another order, FTrues between, or an index with further modes.
func (d dice) other(b body) body {
	if d.Intn(2) == 0 {
		b.Goal = d.shuffled(b.Goal)
	}
	if d.Intn(3) == 0 {
		b.Goal = d.between(b.Goal)
	}
	if d.Intn(3) == 0 {
		b.x.Preds = slices.Clone(b.x.Preds)
		for range 1 + d.Intn(4) {
			p := &b.x.Preds[d.Intn(len(b.x.Preds))]
			further := api.Mode{In: make([]bool, p.Key.Arity), Det: 1 + d.Intn(4)}
			for i := range further.In {
				further.In[i] = d.Intn(2) == 0
			}
			p.Modes = slices.Insert(slices.Clone(p.Modes), d.Intn(len(p.Modes)+1), further)
		}
	}
	return b
}

// shuffled is a goal with its goals in another order; those of an FTry stay.
func (d dice) shuffled(f api.Flat) api.Flat {
	f.Goals = slices.Clone(f.Goals)
	for i := range f.Goals {
		f.Goals[i] = d.shuffled(f.Goals[i])
	}
	if f.Kind == api.FAnd || f.Kind == api.FOr {
		d.Shuffle(len(f.Goals), func(a, b int) { f.Goals[a], f.Goals[b] = f.Goals[b], f.Goals[a] })
	}
	return f
}

// between is the list of a goal with FTrues between, also in the goals within it.
func (d dice) between(f api.Flat) api.Flat {
	var made []api.Flat
	yes := func() {
		for range d.Intn(5) / 2 {
			made = append(made, api.Flat{Kind: api.FTrue})
		}
	}
	for _, g := range listOf(f) {
		yes()
		var within []api.Flat
		for _, part := range g.Goals {
			within = append(within, d.between(part))
		}
		g.Goals = within
		made = append(made, g)
	}
	yes()
	if len(made) == 1 {
		return made[0]
	}
	return api.Flat{Kind: api.FAnd, Goals: made}
}

// listOf is the list of a goal.
func listOf(f api.Flat) []api.Flat {
	if f.Kind == api.FAnd {
		return f.Goals
	}
	return []api.Flat{f}
}
