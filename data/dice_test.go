package data_test

import (
	"math"
	"math/rand"
	"slices"

	"augur/api"
	"augur/types"
	"augur/unify"
)

// dice throws data, and types of few constructors, so that much of what is thrown nearly fits.
type dice struct{ *rand.Rand }

func newDice(seed int64) dice { return dice{rand.New(rand.NewSource(seed))} }

func one[T any](d dice, list ...T) T { return list[d.Intn(len(list))] }

// many is so many of what make makes.
func many[T any](count int, make func() T) []T {
	var list []T
	for range count {
		list = append(list, make())
	}
	return list
}

// number is an int, at an edge at times.
func (d dice) number() int {
	return one(d, 0, 1, 2, -1, -2, 10, 255, 256, -256, math.MaxInt, math.MinInt, 1<<32, int(d.Uint64()))
}

// good is data that are good, and have an encoding and a text that is read.
func (d dice) good(depth int) api.Data {
	if depth == 1 || d.Intn(4) == 0 {
		if d.Intn(2) == 0 {
			return number(d.number())
		}
		return made(d.name())
	}
	args := one(d, 0, 1, 1, 2, 2, 2, 3, 8)
	return made(d.name(), many(args, func() api.Data { return d.good(depth - 1) })...)
}

func (d dice) name() string {
	return one(d, "a", "b", "ab", "aB", "a_", "b0", "f", "in1", "z", "abcdefghijklmnopqrstuvwxyz_01234")
}

// universe is the types of thrown data.
const universe = `type list(T) = nil | cons(T, list(T)). type duo(A, B) = duo(A, B) | solo(B). type t = a | f(t) | g(int, t). type swap(A, B) = swap(B, A) | again(swap(B, A), A).
type nest(T) = flat(T) | deep(nest(list(T))). type ghost(T) = ghost | same(ghost(T), ghost(T)). type none(T) = none(none(T), T). type void = void(none(int)) | nil(void, t).
type pick(T) = zero | one(T) | two(T, T) | three(duo(T, int), T, list(t)).
`

// typ is a type of the universe with unknowns and rigid variables.
func (d dice) typ(depth int) api.Type {
	if depth == 0 || d.Intn(4) == 0 {
		switch d.Intn(6) {
		case 0:
			return api.Type{Kind: api.TyRigid, Name: one(d, "T", "int", "t")}
		case 1:
			return api.Type{Kind: api.TyFree, Var: d.Intn(3)}
		case 2, 3:
			return api.Type{Kind: api.TyInt}
		}
		return api.Type{Kind: api.TyData, Name: one(d, "t", "t", "void")}
	}
	name := one(d, "list", "list", "duo", "swap", "nest", "ghost", "pick", "pick", "none")
	arity := 1
	if name == "duo" || name == "swap" {
		arity = 2
	}
	return api.Type{Kind: api.TyData, Name: name, Args: many(arity, func() api.Type { return d.typ(depth - 1) })}
}

// value is data of a type, or nearly so where a part is spoilt; types without data are given up at depth 0.
func (d dice) value(x api.Index, a api.Type, depth, spoilt int) api.Data {
	if d.Intn(spoilt) == 0 {
		a = d.typ(2)
	}
	if a.Kind != api.TyData || depth == 0 {
		return number(d.Intn(3))
	}
	var own []api.Ctor
	for _, c := range x.Ctors {
		if c.Type == a.Name {
			own = append(own, c)
		}
	}
	// The first constructor is that of the least data, mostly.
	c := one(d, own[0], own[0], one(d, own...))
	fields, _ := types.Fields(x, c.Key, a)
	var args []api.Data
	for _, field := range fields {
		args = append(args, d.value(x, field, depth-1, spoilt))
	}
	if d.Intn(spoilt) == 0 && len(args) > 0 {
		args = args[1:]
	}
	return made(c.Key.Name, args...)
}

// exprOf is a type as it is declared, where the unknowns and rigid variables are variables.
func exprOf(a api.Type) api.TypeExpr {
	switch a.Kind {
	case api.TyInt:
		return api.TypeExpr{Name: "int"}
	case api.TyRigid, api.TyFree:
		return api.TypeExpr{Var: true, Name: "V" + unify.Text(a)}
	}
	e := api.TypeExpr{Name: a.Name}
	for _, arg := range a.Args {
		e.Args = append(e.Args, exprOf(arg))
	}
	return e
}

// changed is data with one change, or none.
func (d dice) changed(a api.Data) api.Data {
	if a.Ctor && len(a.Args) > 0 && d.Intn(3) > 0 {
		a.Args = slices.Clone(a.Args)
		i := d.Intn(len(a.Args))
		a.Args[i] = d.changed(a.Args[i])
		return a
	}
	switch d.Intn(7) {
	case 0:
		return number(d.number())
	case 1:
		return made(d.name(), a.Args...)
	case 2:
		return made(a.Name, append(slices.Clone(a.Args), number(0))...)
	case 3:
		return made(a.Name, a.Args[:len(a.Args)/2]...)
	case 4:
		return d.good(2)
	case 5:
		return made(a.Name + one(d, "a", "\x00", "\xff"))
	}
	return a
}
