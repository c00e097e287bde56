package detism_test

import (
	"fmt"
	"math/rand"
	"slices"
	"strings"
	"testing"

	"augur/api"
)

// dice throws goals and sources.
type dice struct{ *rand.Rand }

func newDice(seed int64) dice { return dice{rand.New(rand.NewSource(seed))} }

func one[T any](d dice, list ...T) T { return list[d.Intn(len(list))] }

func repeated[T any](count int, make func() T) []T {
	var list []T
	for range count {
		list = append(list, make())
	}
	return list
}

// The thrown goals' variables: the first ones are matched, the ones behind them are mostly given values.
const (
	thrownTypes = "t t list(t) list(T) one unit box(int) t t list(t) int int"
	matched     = 7
	variables   = 12
)

// goals throws goals of a procedure whose variables have these types; they need not read what has a value.
type goals struct {
	dice
	x     api.Index
	types []api.Type
}

func newGoals(t *testing.T, seed int64) goals {
	_, x := read(t, declared)
	return goals{newDice(seed), x, typesOf(t, thrownTypes)}
}

// ctors are the constructors of a variable's type.
func (d goals) ctors(v int) []api.Key {
	var list []api.Key
	for _, c := range d.x.Ctors {
		if c.Type == d.types[v].Name {
			list = append(list, c.Key)
		}
	}
	return list
}

// given is a variable that is given a value: rarely one that is matched somewhere.
func (d goals) given() int {
	if d.Intn(6) == 0 {
		return d.Intn(variables)
	}
	return matched + d.Intn(variables-matched)
}

func (d goals) match() api.Sched {
	v := one(d.dice, 0, 0, 1, 2, d.Intn(matched))
	return d.matchOf(v, one(d.dice, d.ctors(v)...))
}

func (d goals) matchOf(v int, c api.Key) api.Sched {
	return api.Sched{Kind: api.SMatch, X: v, Ctor: c, Args: repeated(c.Arity, d.given)}
}

func (d goals) build() api.Sched {
	c := one(d.dice, d.x.Ctors...).Key
	return api.Sched{Kind: api.SBuild, X: d.given(), Ctor: c, Args: repeated(c.Arity, func() int { return d.Intn(variables) })}
}

// call is a call of a predicate of the prelude, or of one that is built in.
func (d goals) call() api.Sched {
	p := one(d.dice, d.x.Preds...)
	id := api.ProcId{Pred: p.Key, Mode: d.Intn(len(p.Modes))}
	return api.Sched{Kind: api.SCall, Proc: id, Args: repeated(p.Key.Arity, func() int { return d.Intn(variables) })}
}

// plain is a goal without goals within it.
func (d goals) plain() api.Sched {
	v, w := d.Intn(variables), d.Intn(variables)
	switch d.Intn(14) {
	case 0:
		return api.Sched{Kind: api.STrue}
	case 1:
		return api.Sched{Kind: one(d.dice, api.SFail, api.STrue)}
	case 2, 3:
		return api.Sched{Kind: api.SCopy, X: d.given(), Y: w}
	case 4:
		return api.Sched{Kind: api.STest, X: v, Y: w}
	case 5:
		return api.Sched{Kind: one(d.dice, api.SLoad, api.SLoad, api.SIs), X: d.given(), Int: d.Intn(5) - 2}
	case 6, 7:
		return d.build()
	case 8, 9:
		return d.call()
	case 10:
		return api.Sched{Kind: api.SThrow, X: v}
	}
	return d.match()
}

// list is a few goals, of which the first ones are mostly such as a head has.
func (d goals) list(depth int) []api.Sched {
	var list []api.Sched
	for range d.Intn(3) {
		list = append(list, d.match())
	}
	for range d.Intn(3) {
		list = append(list, d.goal(depth-1))
	}
	return list
}

// whole is a list as one goal.
func (d goals) whole(list []api.Sched) api.Sched {
	switch {
	case len(list) == 0:
		return api.Sched{Kind: api.STrue}
	case len(list) == 1 && d.Intn(8) > 0:
		return list[0]
	}
	return api.Sched{Kind: api.SAnd, Goals: list}
}

// goal is any goal, with goals within it down to a depth.
func (d goals) goal(depth int) api.Sched {
	if depth <= 0 || d.Intn(3) == 0 {
		return d.plain()
	}
	within := func() api.Sched { return d.whole(d.list(depth)) }
	switch d.Intn(9) {
	case 0, 1:
		return api.Sched{Kind: api.SAnd, Goals: d.list(depth)}
	case 2:
		return api.Sched{Kind: api.SNot, Goals: []api.Sched{within()}}
	case 3:
		return api.Sched{Kind: api.STry, X: d.given(), Goals: repeated(2, within)}
	case 4, 5:
		return d.choice(depth)
	case 6:
		return api.Sched{Kind: api.SOr, Goals: repeated(d.Intn(4), within)}
	}
	return d.or(depth)
}

// or is an SOr of goals that mostly begin with SMatches of the same variables.
func (d goals) or(depth int) api.Sched {
	vars := repeated(1+d.Intn(3), func() int { return d.Intn(matched) })
	s := api.Sched{Kind: api.SOr}
	for range 2 + d.Intn(4) {
		var list []api.Sched
		for _, i := range d.Perm(len(vars)) {
			if d.Intn(8) > 0 {
				list = append(list, d.matchOf(vars[i], one(d.dice, d.ctors(vars[i])...)))
			}
			if d.Intn(4) == 0 {
				list = append(list, d.plain())
			}
		}
		list = append(list, d.list(depth)...)
		s.Goals = append(s.Goals, d.whole(list))
	}
	return s
}

// choice is a switch, of all constructors or of some, whose goals mostly begin with the SMatch.
func (d goals) choice(depth int) api.Sched {
	s := api.Sched{Kind: api.SSwitch, X: d.Intn(matched)}
	all := d.ctors(s.X)
	d.Shuffle(len(all), func(a, b int) { all[a], all[b] = all[b], all[a] })
	if d.Intn(3) == 0 {
		all = all[:d.Intn(len(all)+1)]
	}
	for _, c := range all {
		list := d.list(depth)
		if d.Intn(6) > 0 {
			list = slices.Insert(list, 0, d.matchOf(s.X, c))
		}
		s.Cases = append(s.Cases, c)
		s.Goals = append(s.Goals, d.whole(list))
	}
	return s
}

// proc is a procedure of a goal.
func (d goals) proc(goal api.Sched) api.Proc {
	return api.Proc{
		Id: api.ProcId{Pred: key("p", 2), Mode: d.Intn(3)}, In: []bool{true, d.Intn(2) == 0}, Det: 1 + d.Intn(4), Types: d.types, Vars: variables, Goal: goal,
	}
}

// The thrown sources: some predicates p0, p1, .., that call one another.

// variable is mostly one of those that stand for arguments.
func (d dice) variable() string { return one(d, "X", "X", "X", "Y", "Y", "Y", "Z", "Z", "Z", "V", "_") }

// clauseHead is a clause's head, whose arguments are mostly variables, each of which is then the argument of one place, and the
// variables that aren't there get values.
func (d dice) clauseHead(head string, arity int) (string, []string) {
	var args, given []string
	for i, v := range []string{"X", "Y", "Z"} {
		isArg := i < arity && d.Intn(3) > 0
		if isArg {
			args = append(args, v)
		} else if i < arity {
			args = append(args, d.term(1))
		}
		if !isArg && d.Intn(6) > 0 {
			given = append(given, v+" = "+one(d, "a", "b", "f(V)"))
		}
	}
	if d.Intn(6) > 0 {
		given = append(given, "V = a")
	}
	if arity > 0 {
		head += "(" + strings.Join(args, ", ") + ")"
	}
	return head, given
}

// term is a term of type t, of which the first constructors are the most frequent.
func (d dice) term(depth int) string {
	if depth == 0 {
		return one(d, d.variable(), "a", "b")
	}
	switch d.Intn(8) {
	case 0, 1:
		return d.variable()
	case 2, 3:
		return "a"
	case 4, 5:
		return "b"
	}
	return "f(" + d.term(depth-1) + ")"
}

// sourceCall is a call of one of these predicates, with variables.
func (d dice) sourceCall(preds []int) string {
	at := d.Intn(len(preds))
	if preds[at] == 0 {
		return fmt.Sprint("p", at)
	}
	return fmt.Sprint("p", at, "(", strings.Join(repeated(preds[at], d.variable), ", "), ")")
}

// sourceGoal is a goal that may call these predicates, of which the number tells how many arguments one has.
func (d dice) sourceGoal(preds []int, depth int) string {
	within := func() string { return d.sourceGoals(preds, depth-1) }
	n := d.Intn(16)
	if depth == 0 {
		n = d.Intn(10)
	}
	switch n {
	case 0, 1:
		return d.sourceCall(preds)
	case 2:
		return one(d, "true", "true", "fail", "I = 1", "I = 1, throw I", "I = 1, J = 2, lt(I, J)", "add(I, J, _), I = 1, J = 2")
	case 10, 11:
		return d.sameMatches()
	case 12:
		return "(" + strings.Join(repeated(2+d.Intn(2), within), " ; ") + ")"
	case 13:
		return "not (" + within() + ")"
	case 14:
		return "try (" + within() + ") catch E then (" + within() + ")"
	}
	return d.variable() + " = " + d.term(2)
}

// sameMatches is an SOr whose goals begin with the same variables.
func (d dice) sameMatches() string {
	vars := repeated(1+d.Intn(2), func() string { return one(d, "X", "Y", "Z") })
	goal := func() string {
		var list []string
		for _, v := range vars {
			list = append(list, v+" = "+one(d, "a", "b", "f(_)", "f(_)", "f("+one(d, "a", "b", "_")+")"))
		}
		if d.Intn(3) == 0 {
			list = append(list, one(d, "true", "fail", "W = a"))
		}
		return strings.Join(list, ", ")
	}
	return "(" + strings.Join(repeated(2+d.Intn(4), goal), " ; ") + ")"
}

func (d dice) sourceGoals(preds []int, depth int) string {
	return strings.Join(repeated(1+d.Intn(2), func() string { return d.sourceGoal(preds, depth) }), ", ")
}

// modes are one or two modes of a predicate; the bits of each tell which arguments are out.
func (d dice) modes(arity int) []int {
	out := one(d, 0, 0, 0, 1<<d.Intn(arity+1)>>1, d.Intn(1<<arity))
	if d.Intn(3) == 0 {
		if second := d.Intn(1 << arity); second != out {
			return []int{out, second}
		}
	}
	return []int{out}
}

// mode is a mode of a predicate, with a determinism that is mostly a wide one.
func (d dice) mode(at, arity, out int) string {
	list := ""
	if arity > 0 {
		var ways []string
		for i := range arity {
			ways = append(ways, []string{"in", "out"}[out>>i&1])
		}
		list = "(" + strings.Join(ways, ", ") + ")"
	}
	return fmt.Sprint("mode p", at, list, " is ", one(d, "det", "semidet", "semidet", "semidet", "multi", "nondet", "nondet", "nondet"), ".\n")
}

// source is some predicates, with clauses; each calls itself and those ahead of it.
func (d dice) source() string {
	text := "type t = a | b | f(t).\n"
	var preds []int
	for at := range 1 + d.Intn(3) {
		arity := d.Intn(4)
		preds = append(preds, arity)
		types := repeated(arity, func() string { return "t" })
		head := fmt.Sprint("p", at)
		if arity > 0 {
			text += "pred " + head + "(" + strings.Join(types, ", ") + ").\n"
		} else {
			text += "pred " + head + ".\n"
		}
		for _, mode := range d.modes(arity) {
			text += d.mode(at, arity, mode)
		}
		text += d.clauses(head, preds)
	}
	return text
}

// clauses are those of the last predicate.
func (d dice) clauses(head string, preds []int) string {
	text := ""
	depth := one(d, 0, 1, 1, 2)
	for range one(d, 0, 1, 1, 2, 2, 2, 3, 3, 4, 5) {
		start, given := d.clauseHead(head, preds[len(preds)-1])
		goals := repeated(d.Intn(3), func() string { return d.sourceGoal(preds, depth) })
		for _, g := range given {
			goals = slices.Insert(goals, d.Intn(len(goals)+1), g)
		}
		text += start
		if len(goals) > 0 {
			text += " :- " + strings.Join(goals, ", ")
		}
		text += ".\n"
	}
	return text
}
