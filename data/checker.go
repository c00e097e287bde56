package data

import (
	"errors"

	"augur/api"
	"augur/names"
	"augur/unify"
)

// checker is the table of one call of Check.
type checker struct {
	*unify.Table
	index api.Index
	found map[api.Key]api.Ctor // so that a constructor that occurs often is searched for once
}

func newChecker(x api.Index) *checker {
	return &checker{Table: unify.New(), index: x, found: map[api.Key]api.Ctor{}}
}

// add is a further unknown for each variable: in order, and by name.
func (c *checker) add(variables []string) ([]api.Type, map[string]api.Type) {
	var list []api.Type
	vars := map[string]api.Type{}
	for _, name := range variables {
		a := c.Fresh()
		list, vars[name] = append(list, a), a
	}
	return list, vars
}

// all asks whether each of a list of data has the declared type of the same place, in which vars stands for variables.
func (c *checker) all(declared []api.TypeExpr, vars map[string]api.Type, list []api.Data) error {
	for i, d := range list {
		// What is within the data is asked first: this decides which error is told.
		t, err := c.typeOf(d)
		if err != nil {
			return err
		}
		if err := c.Unify(unify.Instance(declared[i], vars), t); err != nil {
			return refusal(err)
		}
	}
	return nil
}

// refusal is what Check answers for an error of a unification.
func refusal(err error) error {
	if errors.Is(err, api.ErrLarge) {
		return api.ErrLarge
	}
	return api.ErrData
}

// typeOf is the type of data.
func (c *checker) typeOf(d api.Data) (api.Type, error) {
	if !d.Ctor {
		return api.Type{Kind: api.TyInt}, nil
	}
	ctor, ok := c.ctor(api.Key{Name: d.Name, Arity: len(d.Args)})
	// The lengths differ only in an index that no layer makes.
	if !ok || len(ctor.Args) != len(d.Args) {
		return api.Type{}, api.ErrData
	}
	args, vars := c.add(ctor.Vars)
	if err := c.all(ctor.Args, vars, d.Args); err != nil {
		return api.Type{}, err
	}
	return api.Type{Kind: api.TyData, Name: ctor.Type, Args: args}, nil
}

// ctor is the constructor with a key; false if there is none.
func (c *checker) ctor(k api.Key) (api.Ctor, bool) {
	if ctor, ok := c.found[k]; ok {
		return ctor, true
	}
	ctor, ok := names.Ctor(c.index, k)
	if ok {
		c.found[k] = ctor
	}
	return ctor, ok
}
