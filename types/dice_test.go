package types_test

import (
	"fmt"
	"math/rand"
	"slices"
	"strings"
	"testing"

	"augur/api"
	"augur/unify"
)

// prelude is the types of thrown sources.
const prelude = `type list(T) = nil | cons(T, list(T)). type duo(A, B) = duo(A, B) | duo(B). type t = a | f(t). type swap(A, B) = swap(B, A) | again(swap(B, A), A). type nest(T) = flat(T) | deep(nest(list(T))). type ghost(T) = ghost.`

// dice throws sources, whose clauses are mostly of the types that they are thrown for.
type dice struct{ *rand.Rand }

func one[T any](d dice, list ...T) T { return list[d.Intn(len(list))] }

// typ is a type with rigid variables.
func (d dice) typ(depth int) api.Type {
	if depth == 0 || d.Intn(3) == 0 {
		return one(d, integer(), integer(), data("t"), rigid("A"), rigid("B"))
	}
	within := func() api.Type { return d.typ(depth - 1) }
	switch d.Intn(12) {
	case 0, 1:
		return data("duo", within(), within())
	case 2:
		return data("swap", within(), within())
	case 3:
		return data("nest", within())
	case 4:
		return data("ghost", within())
	case 5:
		return sized(one(d, 66, 99, 100, 150, 195, 197, 198, 199, 200))
	}
	return data("list", within())
}

// sized is a type of so many nodes.
func sized(nodes int) api.Type {
	switch nodes {
	case 1:
		return integer()
	case 2:
		return data("list", integer())
	}
	return data("duo", sized((nodes-1)/2), sized(nodes-1-(nodes-1)/2))
}

// with is a type with others in place of its rigid variables.
func with(a api.Type, of map[string]api.Type) api.Type {
	if other, ok := of[a.Name]; ok && a.Kind == api.TyRigid {
		return other
	}
	made := a
	made.Args = nil
	for _, arg := range a.Args {
		made.Args = append(made.Args, with(arg, of))
	}
	return made
}

// signature is a predicate and the types of its arguments.
type signature struct {
	name string
	args []api.Type
}

// known is a variable and the type that it is thrown for.
type known struct {
	name string
	of   api.Type
}

// thrower throws one clause.
type thrower struct {
	dice
	ctors  []api.Ctor
	preds  []signature
	vars   []known
	spoilt int // one of so many types is another one
}

// variable is a variable of a type: one that is there, or a new one.
func (c *thrower) variable(a api.Type) string {
	var fit []string
	for _, k := range c.vars {
		if unify.Same(k.of, a) {
			fit = append(fit, k.name)
		}
	}
	if len(fit) > 0 && c.Intn(4) > 0 {
		return one(c.dice, fit...)
	}
	if c.Intn(6) == 0 {
		return "_"
	}
	name := fmt.Sprint("V", len(c.vars))
	c.vars = append(c.vars, known{name, a})
	return name
}

// term is a term of a type.
func (c *thrower) term(a api.Type, depth int) string {
	if c.Intn(c.spoilt) == 0 {
		a = c.typ(2)
	}
	if a.Kind == api.TyInt && c.Intn(2) == 0 {
		return fmt.Sprint(c.Intn(9) - 4)
	}
	if a.Kind != api.TyData || depth == 0 || c.Intn(2) == 0 {
		return c.variable(a)
	}
	var own []api.Ctor
	for _, ctor := range c.ctors {
		if ctor.Type == a.Name {
			own = append(own, ctor)
		}
	}
	ctor, of := one(c.dice, own...), map[string]api.Type{}
	for i, name := range ctor.Vars {
		of[name] = a.Args[i]
	}
	var args []api.Type
	for _, arg := range ctor.Args {
		args = append(args, with(unify.Instance(arg, nil), of))
	}
	return ctor.Key.Name + c.terms(args, depth-1)
}

// terms are arguments of types, in parentheses.
func (c *thrower) terms(list []api.Type, depth int) string {
	if len(list) == 0 {
		return ""
	}
	var made []string
	for _, a := range list {
		made = append(made, c.term(a, depth))
	}
	return "(" + strings.Join(made, ", ") + ")"
}

// call is a call of any predicate, at any types.
func (c *thrower) call() string {
	p := one(c.dice, c.preds...)
	of := map[string]api.Type{"A": c.typ(1), "B": c.typ(2)}
	if len(c.vars) > 0 && c.Intn(2) == 0 {
		of["A"] = one(c.dice, c.vars...).of
	}
	var list []api.Type
	for _, a := range p.args {
		list = append(list, with(a, of))
	}
	return p.name + c.terms(list, 1)
}

func (c *thrower) goal(depth int) string {
	if depth > 0 && c.Intn(4) == 0 {
		within := func() string { return c.goal(depth - 1) }
		switch c.Intn(4) {
		case 0:
			return "(" + within() + " ; " + within() + ")"
		case 1:
			return "not (" + within() + ", " + within() + ")"
		case 2:
			return "(" + within() + ", " + within() + " ; " + within() + " ; " + within() + ")"
		}
		return "try " + within() + " catch " + c.variable(integer()) + " then " + within()
	}
	switch c.Intn(8) {
	case 0:
		return one(c.dice, "true", "fail")
	case 1:
		return "throw " + c.term(integer(), 1)
	case 2, 3, 4:
		a := c.typ(2)
		if len(c.vars) > 0 && c.Intn(3) > 0 {
			a = one(c.dice, c.vars...).of
		}
		return c.term(a, 2) + " = " + c.term(a, 2)
	}
	return c.call()
}

// clause is a clause of a predicate.
func (c *thrower) clause(p signature) string {
	c.vars = nil
	head := p.name + c.terms(p.args, 2)
	var goals []string
	for range c.Intn(6) {
		goals = append(goals, c.goal(2))
	}
	if len(goals) == 0 {
		return head + "."
	}
	return head + " :- " + strings.Join(goals, ", ") + "."
}

// source is a source: a line of types, then a line of each declaration and clause.
func (d dice) source(ctors []api.Ctor) string {
	c := thrower{dice: d, ctors: ctors, spoilt: one(d, 5, 10, 40, 200)}
	c.preds = []signature{{"add", slices.Repeat([]api.Type{integer()}, 3)}, {"lt", slices.Repeat([]api.Type{integer()}, 2)}}
	text := prelude + "\n"
	for i := range 3 {
		p := signature{name: fmt.Sprint("p", i)}
		var ways []string
		for range d.Intn(4) {
			p.args = append(p.args, d.typ(2))
			ways = append(ways, "in")
		}
		c.preds = append(c.preds, p)
		types, modes := "", ""
		if len(ways) > 0 {
			types, modes = "("+strings.Join(exact(p.args), ", ")+")", "("+strings.Join(ways, ", ")+")"
		}
		text += "pred " + p.name + types + ".\nmode " + p.name + modes + " is nondet.\n"
	}
	for _, p := range c.preds[2:] {
		for range d.Intn(4) {
			text += c.clause(p) + "\n"
		}
	}
	return text
}

// thrown calls what to do with each of many sources; seven of their predicates are built in.
func thrown(t *testing.T, seed int64, count int, look func(d dice, text string, items []api.Item, x api.Index)) {
	t.Helper()
	d := dice{rand.New(rand.NewSource(seed))}
	_, of := read(t, prelude)
	for range count {
		text := d.source(of.Ctors)
		items, x := read(t, text)
		look(d, text, items, x)
	}
}

// shuffled is a goal with its goals in another order.
func (d dice) shuffled(f api.Flat) api.Flat {
	f.Goals = slices.Clone(f.Goals)
	for i := range f.Goals {
		f.Goals[i] = d.shuffled(f.Goals[i])
	}
	if f.Kind == api.FAnd || f.Kind == api.FOr {
		d.Shuffle(len(f.Goals), func(a, b int) { f.Goals[a], f.Goals[b] = f.Goals[b], f.Goals[a] })
	}
	return f
}

// mixed is a goal with its goals in another order, where goals of an FOr are left out.
func (d dice) mixed(f api.Flat) api.Flat {
	f = d.shuffled(f)
	if f.Kind == api.FOr {
		f.Goals = f.Goals[:d.Intn(len(f.Goals)+1)]
	}
	for i := range f.Goals {
		f.Goals[i] = d.mixed(f.Goals[i])
	}
	return f
}
