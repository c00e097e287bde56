package flat_test

import (
	"fmt"
	"math/rand"
	"slices"
	"strings"
	"testing"

	"augur/api"
	"augur/flat"
	"augur/print"
)

// The document once more, in two steps: first the goals are written as texts with signs for the variables, and the signs
// that get a number are noted in their order; then the signs that are noted get the numbers.

// writing is goals, and the signs that got a number on the way.
type writing struct {
	signs []string
	goals []string
}

func (w *writing) then(more writing) {
	w.signs = append(w.signs, more.signs...)
	w.goals = append(w.goals, more.goals...)
}

// whole is one goal.
func (w writing) whole() string {
	switch len(w.goals) {
	case 0:
		return "true"
	case 1:
		return w.goals[0]
	}
	return "(" + strings.Join(w.goals, " & ") + ")"
}

// writer writes one clause.
type writer struct {
	clause int
	own    map[string]string // of a name that is an argument: its sign
	nobody *int
}

// sign is the sign that stands for a term.
func (w writer) sign(t api.Term) string {
	if t.Kind == api.TVar && t.Name != "_" {
		if sign, ok := w.own[t.Name]; ok {
			return sign
		}
		return fmt.Sprintf("<%s of %d>", t.Name, w.clause)
	}
	*w.nobody++
	return fmt.Sprintf("<%d>", *w.nobody)
}

// is unifies a sign with a term that is no variable.
func (w writer) is(sign string, t api.Term) writing {
	if t.Kind == api.TInt {
		return writing{goals: []string{fmt.Sprintf("%s is %d", sign, t.Int)}}
	}
	var signs []string
	var within writing
	for _, arg := range t.Args {
		signs = append(signs, w.sign(arg))
	}
	for at, arg := range t.Args {
		if arg.Kind != api.TVar {
			within.then(w.is(signs[at], arg))
		}
	}
	made := writing{signs: signs, goals: []string{fmt.Sprintf("%s = %s/%d%v", sign, t.Name, len(signs), signs)}}
	made.then(within)
	return made
}

// put places a term.
func (w writer) put(t api.Term) (writing, string) {
	sign := w.sign(t)
	made := writing{signs: []string{sign}}
	if t.Kind != api.TVar {
		made.then(w.is(sign, t))
	}
	return made, sign
}

func (w writer) equal(a, b api.Term) writing {
	var made writing
	switch va, vb := a.Kind == api.TVar, b.Kind == api.TVar; {
	case va && vb && (a.Name == "_" || b.Name == "_"):
	case va && vb:
		made.signs = []string{w.sign(a), w.sign(b)}
		made.goals = []string{made.signs[0] + " = " + made.signs[1]}
	case va:
		made.signs = []string{w.sign(a)}
		made.then(w.is(made.signs[0], b))
	case vb:
		made.signs = []string{w.sign(b)}
		made.then(w.is(made.signs[0], a))
	default:
		made.signs = []string{w.sign(a)}
		sign := made.signs[0]
		made.then(w.is(sign, a))
		made.then(w.is(sign, b))
	}
	return made
}

func (w writer) goal(g api.Goal) writing {
	var made writing
	var signs, wholes []string
	switch g.Kind {
	case api.GUnify:
		return w.equal(g.A, g.B)
	case api.GThrow:
		made, sign := w.put(g.A)
		made.goals = append(made.goals, "throw "+sign)
		return made
	case api.GTry:
		signs = []string{w.sign(api.Term{Kind: api.TVar, Name: g.Name})}
		made.signs = slices.Clone(signs)
	}
	for _, arg := range g.Args {
		more, sign := w.put(arg)
		made.then(more)
		signs = append(signs, sign)
	}
	for _, part := range g.Goals {
		more := w.goal(part)
		if g.Kind == api.GAnd {
			made.then(more)
			continue
		}
		made.signs = append(made.signs, more.signs...)
		wholes = append(wholes, more.whole())
	}
	switch g.Kind {
	case api.GFail:
		made.goals = append(made.goals, "fail")
	case api.GCall:
		made.goals = append(made.goals, fmt.Sprintf("%s/%d%v", g.Name, len(signs), signs))
	case api.GOr:
		made.goals = append(made.goals, "{"+strings.Join(wholes, " | ")+"}")
	case api.GNot:
		made.goals = append(made.goals, "not "+wholes[0])
	case api.GTry:
		made.goals = append(made.goals, fmt.Sprintf("try %s: %s, %s", signs[0], wholes[0], wholes[1]))
	}
	return made
}

// occurs tells whether a name is in a term.
func occurs(name string, t api.Term) bool {
	return t.Kind == api.TVar && t.Name == name || slices.ContainsFunc(t.Args, func(arg api.Term) bool { return occurs(name, arg) })
}

// written is a clause's goals and signs.
func written(clause int, it api.Item, nobody *int) writing {
	w := writer{clause: clause, own: map[string]string{}, nobody: nobody}
	for x, t := range it.Args {
		if t.Kind == api.TVar && !slices.ContainsFunc(it.Args[:x], func(arg api.Term) bool { return occurs(t.Name, arg) }) {
			w.own[t.Name] = fmt.Sprintf("<arg %d>", x)
		}
	}
	var made writing
	for x, t := range it.Args {
		arg := fmt.Sprintf("<arg %d>", x)
		if t.Kind != api.TVar {
			made.then(w.is(arg, t))
		} else if t.Name != "_" && w.sign(t) != arg {
			made.goals = append(made.goals, arg+" = "+w.sign(t))
		}
	}
	made.then(w.goal(it.Body))
	return made
}

// again is the text of a predicate's body, and how many variables it has.
func again(clauses []api.Item, arity int) (string, int) {
	var signs, wholes []string
	var nobody int
	for x := range arity {
		signs = append(signs, fmt.Sprintf("<arg %d>", x))
	}
	for at, it := range clauses {
		w := written(at, it, &nobody)
		signs = append(signs, w.signs...)
		wholes = append(wholes, w.whole())
	}
	numbers := map[string]int{}
	var pairs []string
	for _, sign := range signs {
		if _, ok := numbers[sign]; !ok {
			numbers[sign] = len(numbers)
			pairs = append(pairs, sign, fmt.Sprint(numbers[sign]))
		}
	}
	text := "fail"
	if len(wholes) == 1 {
		text = wholes[0]
	} else if len(wholes) > 1 {
		text = "{" + strings.Join(wholes, " | ") + "}"
	}
	return strings.NewReplacer(pairs...).Replace(text), len(numbers)
}

// text is a flat goal in the form in which they are written above.
func text(f api.Flat) string {
	var parts []string
	for _, g := range f.Goals {
		parts = append(parts, text(g))
	}
	switch f.Kind {
	case api.FTrue:
		return "true"
	case api.FFail:
		return "fail"
	case api.FSame:
		return fmt.Sprintf("%d = %d", f.X, f.Y)
	case api.FInt:
		return fmt.Sprintf("%d is %d", f.X, f.Int)
	case api.FCtor:
		return fmt.Sprintf("%d = %s/%d%v", f.X, f.Ctor.Name, f.Ctor.Arity, f.Args)
	case api.FCall:
		return fmt.Sprintf("%s/%d%v", f.Pred.Name, f.Pred.Arity, f.Args)
	case api.FAnd:
		return "(" + strings.Join(parts, " & ") + ")"
	case api.FOr:
		return "{" + strings.Join(parts, " | ") + "}"
	case api.FNot:
		return "not " + strings.Join(parts, ", ")
	case api.FThrow:
		return fmt.Sprintf("throw %d", f.X)
	case api.FTry:
		return fmt.Sprintf("try %d: ", f.X) + strings.Join(parts, ", ")
	}
	return "?"
}

// bare is a goal with the fields of its kind alone.
func bare(f api.Flat) api.Flat {
	made := api.Flat{Kind: f.Kind}
	switch f.Kind {
	case api.FSame:
		made.X, made.Y = f.X, f.Y
	case api.FInt:
		made.X, made.Int = f.X, f.Int
	case api.FCtor:
		made.X, made.Ctor, made.Args = f.X, f.Ctor, f.Args
	case api.FCall:
		made.Pred, made.Args = f.Pred, f.Args
	case api.FThrow:
		made.X = f.X
	case api.FTry:
		made.X = f.X
	}
	for _, g := range f.Goals {
		made.Goals = append(made.Goals, bare(g))
	}
	return made
}

// dice throws sources that are well named, of few names, so that most names occur often.
type dice struct{ *rand.Rand }

func one[T any](d dice, list ...T) T { return list[d.Intn(len(list))] }

// many is so many of what make makes.
func many[T any](count int, make func() T) []T {
	var list []T
	for range count {
		list = append(list, make())
	}
	return list
}

func (d dice) term(depth int) api.Term {
	switch kind := d.Intn(6); {
	case kind < 3 || depth == 0 && kind < 5:
		return api.Term{Kind: api.TVar, Name: one(d, "X", "Y", "Z", "E", "_")}
	case kind == 3 || depth == 0:
		return api.Term{Kind: api.TInt, Int: one(d, 0, 1, -1, 77)}
	}
	return api.Term{Kind: api.TCtor, Name: one(d, "a", "f", "_x"), Args: many(d.Intn(4), func() api.Term { return d.term(depth - 1) })}
}

func (d dice) goal(depth int) api.Goal {
	within := func() api.Goal { return d.goal(depth - 1) }
	if depth > 0 {
		switch d.Intn(8) {
		case 0, 1:
			return api.Goal{Kind: api.GAnd, Goals: many(2+d.Intn(3), within)}
		case 2:
			return api.Goal{Kind: api.GOr, Goals: many(2+d.Intn(3), within)}
		case 3:
			return api.Goal{Kind: api.GNot, Goals: many(1, within)}
		case 4:
			return api.Goal{Kind: api.GTry, Goals: many(2, within), Name: one(d, "E", "X", "_")}
		}
	}
	switch d.Intn(8) {
	case 0:
		return api.Goal{Kind: api.GTrue}
	case 1:
		return api.Goal{Kind: api.GFail}
	case 2:
		return api.Goal{Kind: api.GThrow, A: d.term(2)}
	case 3, 4, 5:
		return api.Goal{Kind: api.GUnify, A: d.term(2), B: d.term(2)}
	}
	of := one(d, key("p", d.Intn(4)), key("add", 3), key("le", 2))
	return api.Goal{Kind: api.GCall, Name: of.Name, Args: many(of.Arity, func() api.Term { return d.term(2) })}
}

// clause is a clause of a p.
func (d dice) clause(arity int) api.Item {
	it := api.Item{Kind: api.ItemClause, Name: "p", Args: many(arity, func() api.Term { return d.term(2) }), Body: api.Goal{Kind: api.GTrue}}
	if d.Intn(4) > 0 {
		it.Body = d.goal(3)
	}
	return it
}

// source is what declares all that may be thrown, and clauses.
func (d dice) source() []api.Item {
	of := api.Item{Kind: api.ItemType, Name: "t"}
	for _, name := range []string{"a", "f", "_x"} {
		for arity := range 4 {
			of.Ctors = append(of.Ctors, api.CtorDecl{Name: name, Args: make([]api.TypeExpr, arity)})
			for i := range arity {
				of.Ctors[len(of.Ctors)-1].Args[i].Name = "t"
			}
		}
	}
	items := []api.Item{of}
	for arity := range 4 {
		items = append(items, api.Item{Kind: api.ItemMode, Name: "p", In: make([]bool, arity), Det: api.Det},
			api.Item{Kind: api.ItemPred, Name: "p", Types: slices.Repeat([]api.TypeExpr{{Name: "int"}}, arity)})
	}
	for range d.Intn(one(d, 12, 12, 12, 12, 12, 12, 12, 150)) {
		items = append(items, d.clause(d.Intn(4)))
	}
	d.Shuffle(len(items), func(a, b int) { items[a], items[b] = items[b], items[a] })
	return items
}

// clausesOf are the clauses of a p.
func clausesOf(items []api.Item, arity int) []api.Item {
	return slices.DeleteFunc(slices.Clone(items), func(it api.Item) bool { return it.Kind != api.ItemClause || len(it.Args) != arity })
}

// thrown calls what to do with each predicate of many sources.
func thrown(t *testing.T, seed int64, count int, look func(d dice, items []api.Item, x api.Index, arity int)) {
	d := dice{rand.New(rand.NewSource(seed))}
	for range count {
		items := d.source()
		x := indexed(t, items)
		for arity := range 4 {
			look(d, items, x, arity)
		}
	}
}

// P5.1: bodies by the document once more.
func TestBodiesAgain(t *testing.T) {
	counts := map[error]int{}
	thrown(t, 1, 2000, func(_ dice, items []api.Item, x api.Index, arity int) {
		clauses := clausesOf(items, arity)
		want, vars := again(clauses, arity)
		b, err := flat.Flatten(items, x, key("p", arity))
		counts[err]++
		if vars > api.MaxVars {
			held(t, print.Source(clauses), err, api.ErrLarge)
			held(t, print.Source(clauses), b, api.Body{})
			return
		}
		held(t, print.Source(clauses), err, nil)
		held(t, print.Source(clauses), b, api.Body{Pred: key("p", arity), Vars: vars, Goal: bare(b.Goal)})
		held(t, print.Source(clauses), text(b.Goal), want)
	})
	if counts[nil] < 4000 || counts[api.ErrLarge] < 100 {
		t.Error(counts)
	}
}

// counted is how often constructors, ints and calls occur.
type counted map[string]int

func (c counted) term(t api.Term) {
	switch t.Kind {
	case api.TInt:
		c[fmt.Sprint("int ", t.Int)]++
	case api.TCtor:
		c[fmt.Sprint("constructor ", t.Name, len(t.Args))]++
	}
	for _, arg := range t.Args {
		c.term(arg)
	}
}

func (c counted) goal(g api.Goal) {
	if g.Kind == api.GCall {
		c[fmt.Sprint("call ", g.Name, len(g.Args))]++
	}
	c.term(g.A)
	c.term(g.B)
	for _, arg := range g.Args {
		c.term(arg)
	}
	for _, part := range g.Goals {
		c.goal(part)
	}
}

func (c counted) flat(f api.Flat) {
	switch f.Kind {
	case api.FInt:
		c[fmt.Sprint("int ", f.Int)]++
	case api.FCtor:
		c[fmt.Sprint("constructor ", f.Ctor.Name, len(f.Args))]++
	case api.FCall:
		c[fmt.Sprint("call ", f.Pred.Name, len(f.Args))]++
	}
	for _, g := range f.Goals {
		c.flat(g)
	}
}

// P5.2: constructors, ints and calls occur in the body as often as in the clauses.
func TestNothingLost(t *testing.T) {
	thrown(t, 2, 1000, func(_ dice, items []api.Item, x api.Index, arity int) {
		b, err := flat.Flatten(items, x, key("p", arity))
		if err != nil {
			return
		}
		inClauses, inBody := counted{}, counted{}
		for _, it := range clausesOf(items, arity) {
			for _, term := range it.Args {
				inClauses.term(term)
			}
			inClauses.goal(it.Body)
		}
		inBody.flat(b.Goal)
		held(t, print.Source(clausesOf(items, arity)), inBody, inClauses)
	})
}

// P5.2: clauses share no variables but the arguments; each further number is in use.
func TestClausesShareNothing(t *testing.T) {
	thrown(t, 3, 1000, func(_ dice, items []api.Item, x api.Index, arity int) {
		b, err := flat.Flatten(items, x, key("p", arity))
		if err != nil {
			return
		}
		parts := []api.Flat{b.Goal}
		if len(clausesOf(items, arity)) > 1 {
			parts = b.Goal.Goals
		}
		of := map[int]int{}
		for at, part := range parts {
			for v := range flat.Vars(part) {
				if was, ok := of[v]; v < 0 || v >= b.Vars || v >= arity && ok && was != at {
					t.Errorf("%s: variable %d of clause %d", print.Source(clausesOf(items, arity)), v, at)
				}
				of[v] = at
			}
		}
		for v := arity; v < b.Vars; v++ {
			if _, ok := of[v]; !ok {
				t.Errorf("%s: variable %d is nowhere", print.Source(clausesOf(items, arity)), v)
			}
		}
	})
}

// renamed is a term with other names of variables.
func renamed(t api.Term, suffix string) api.Term {
	if t.Kind == api.TVar && t.Name != "_" {
		t.Name += suffix
	}
	t.Args = slices.Clone(t.Args)
	for i := range t.Args {
		t.Args[i] = renamed(t.Args[i], suffix)
	}
	return t
}

func renamedGoal(g api.Goal, suffix string) api.Goal {
	g.A, g.B = renamed(g.A, suffix), renamed(g.B, suffix)
	g.Args = renamed(api.Term{Args: g.Args}, suffix).Args
	if g.Kind == api.GTry && g.Name != "_" {
		g.Name += suffix
	}
	g.Goals = slices.Clone(g.Goals)
	for i := range g.Goals {
		g.Goals[i] = renamedGoal(g.Goals[i], suffix)
	}
	return g
}

// P5.1, P7: the names of variables don't matter, nor do the other predicates.
func TestNamesOfVariables(t *testing.T) {
	thrown(t, 4, 500, func(_ dice, items []api.Item, x api.Index, arity int) {
		first, err := flat.Flatten(items, x, key("p", arity))
		others := slices.DeleteFunc(slices.Clone(items), func(it api.Item) bool { return it.Kind == api.ItemClause && len(it.Args) != arity })
		for at, it := range others {
			if it.Kind == api.ItemClause {
				suffix := fmt.Sprint(at)
				others[at].Args, others[at].Body = renamed(api.Term{Args: it.Args}, suffix).Args, renamedGoal(it.Body, suffix)
			}
		}
		second, otherErr := flat.Flatten(others, indexed(t, others), key("p", arity))
		held(t, print.Source(others), second, first)
		held(t, print.Source(others), otherErr, err)
	})
}
