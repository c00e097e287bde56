package types

import (
	"augur/api"
	"augur/names"
	"augur/unify"
)

// inference is the table of a body: its first unknowns are those of the variables, the ones behind them are what goals add.
// A body that no layer makes may name what isn't there: it is answered with ErrTypes.
type inference struct {
	*unify.Table
	index api.Index
	vars  int // how many variables the body has
}

func newInference(x api.Index, vars int) *inference {
	in := &inference{Table: unify.New(), index: x, vars: vars}
	for range vars {
		in.Fresh()
	}
	return in
}

// unknown is the unknown of a variable.
func unknown(v int) api.Type { return api.Type{Kind: api.TyFree, Var: v} }

// has tells whether a number is a variable's: an unknown that a goal added is none of the body's.
func (in *inference) has(v int) bool { return v >= 0 && v < in.vars }

// equate unifies the unknown of a variable with a type.
func (in *inference) equate(v int, a api.Type) error {
	if !in.has(v) {
		return api.ErrTypes
	}
	return in.Unify(unknown(v), a)
}

// equateAll unifies the unknown of each variable with the declared type of the same place, in which vars stands for variables.
func (in *inference) equateAll(list []int, declared []api.TypeExpr, vars map[string]api.Type) error {
	if len(list) != len(declared) {
		return api.ErrTypes
	}
	for i, v := range list {
		if err := in.equate(v, unify.Instance(declared[i], vars)); err != nil {
			return err
		}
	}
	return nil
}

// predicate gives the arguments their declared types, whose variables are rigid.
func (in *inference) predicate(k api.Key) error {
	p, ok := names.Pred(in.index, k)
	if !ok {
		return api.ErrTypes
	}
	args := make([]int, len(p.Types))
	for i := range args {
		args[i] = i
	}
	return in.equateAll(args, p.Types, nil)
}

// goal unifies what a goal says is of one type, and then what the goals within it say.
func (in *inference) goal(f api.Flat) error {
	switch f.Kind {
	case api.FSame:
		return in.same(f.X, f.Y)
	case api.FInt, api.FThrow:
		return in.equate(f.X, api.Type{Kind: api.TyInt})
	case api.FCtor:
		return in.ctor(f)
	case api.FCall:
		return in.call(f)
	case api.FTry:
		return in.try(f)
	}
	for _, g := range f.Goals {
		if err := in.goal(g); err != nil {
			return err
		}
	}
	return nil
}

func (in *inference) same(x, y int) error {
	if !in.has(y) {
		return api.ErrTypes
	}
	return in.equate(x, unknown(y))
}

func (in *inference) ctor(f api.Flat) error {
	c, ok := names.Ctor(in.index, f.Ctor)
	if !ok {
		return api.ErrTypes
	}
	args, vars := in.add(c.Vars)
	if err := in.equate(f.X, api.Type{Kind: api.TyData, Name: c.Type, Args: args}); err != nil {
		return err
	}
	return in.equateAll(f.Args, c.Args, vars)
}

func (in *inference) call(f api.Flat) error {
	p, ok := names.Pred(in.index, f.Pred)
	if !ok {
		return api.ErrTypes
	}
	_, vars := in.add(unify.Names(p.Types))
	return in.equateAll(f.Args, p.Types, vars)
}

// try asks that what is raised is an int between its two goals, not ahead of them: this decides which error is the first.
func (in *inference) try(f api.Flat) error {
	if len(f.Goals) != 2 {
		return api.ErrTypes
	}
	if err := in.goal(f.Goals[0]); err != nil {
		return err
	}
	if err := in.equate(f.X, api.Type{Kind: api.TyInt}); err != nil {
		return err
	}
	return in.goal(f.Goals[1])
}

// add is a further unknown for each variable of declared types: in order, and by name.
func (in *inference) add(variables []string) ([]api.Type, map[string]api.Type) {
	var list []api.Type
	vars := map[string]api.Type{}
	for _, name := range variables {
		a := in.Fresh()
		list = append(list, a)
		vars[name] = a
	}
	return list, vars
}

// types is what the unknowns of the variables come to.
func (in *inference) types() ([]api.Type, error) {
	var list []api.Type
	for v := range in.vars {
		a, err := in.Resolve(unknown(v))
		if err != nil {
			return nil, err
		}
		list = append(list, a)
	}
	return unify.Plain(list), nil
}
