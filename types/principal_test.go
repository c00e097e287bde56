package types_test

import (
	"slices"
	"testing"

	"augur/api"
	"augur/flat"
	"augur/types"
	"augur/unify"
)

// meets tells whether a declared type, with types for its variables, is a type; it notes types for those that have none.
func meets(e api.TypeExpr, a api.Type, of map[string]api.Type) bool {
	if e.Var {
		if _, ok := of[e.Name]; !ok {
			of[e.Name] = a
		}
		return unify.Same(of[e.Name], a)
	}
	if e.Name == "int" {
		return unify.Same(a, integer())
	}
	return a.Kind == api.TyData && a.Name == e.Name && allMeet(e.Args, a.Args, of)
}

func allMeet(list []api.TypeExpr, with []api.Type, of map[string]api.Type) bool {
	if len(list) != len(with) {
		return false
	}
	for i, e := range list {
		if !meets(e, with[i], of) {
			return false
		}
	}
	return true
}

// wellTyped tells whether each goal is well typed where the variables have these types, whatever is declared further.
func wellTyped(x api.Index, f api.Flat, list []api.Type) bool {
	var args []api.Type
	for _, v := range f.Args {
		args = append(args, list[v])
	}
	w, of, fits := asks{x: x}, map[string]api.Type{}, true
	switch f.Kind {
	case api.FSame:
		fits = unify.Same(list[f.X], list[f.Y])
	case api.FInt, api.FThrow, api.FTry:
		fits = unify.Same(list[f.X], integer())
	case api.FCtor:
		c := w.ctor(f.Ctor)
		own := api.TypeExpr{Name: c.Type}
		for _, name := range c.Vars {
			own.Args = append(own.Args, api.TypeExpr{Var: true, Name: name})
		}
		fits = meets(own, list[f.X], of) && allMeet(c.Args, args, of)
	case api.FCall:
		fits = allMeet(w.pred(f.Pred).Types, args, of)
	}
	return fits && !slices.ContainsFunc(f.Goals, func(g api.Flat) bool { return !wellTyped(x, g, list) })
}

// declaredTypes are those of a body's arguments.
func declaredTypes(x api.Index, b api.Body) []api.TypeExpr { return (&asks{x: x}).pred(b.Pred).Types }

// wellTypedAt tells whether a body is well typed, whose predicate is called at these types in place of its rigid ones.
func wellTypedAt(x api.Index, b api.Body, list []api.Type, of map[string]api.Type) bool {
	declared := declaredTypes(x, b)
	for _, e := range declared {
		for _, name := range unify.Names([]api.TypeExpr{e}) {
			if _, ok := of[name]; !ok {
				of[name] = rigid(name)
			}
		}
	}
	return len(list) == b.Vars && allMeet(declared, list[:len(declared)], of) && wellTyped(x, b.Goal, list)
}

// isInstance tells whether a type is another one with types for its unknowns; it notes types for those that have none.
func isInstance(a, general api.Type, of map[int]api.Type) bool {
	if general.Kind == api.TyFree {
		if _, ok := of[general.Var]; !ok {
			of[general.Var] = a
		}
		return unify.Same(of[general.Var], a)
	}
	if a.Kind != general.Kind || a.Name != general.Name || len(a.Args) != len(general.Args) {
		return false
	}
	for i, arg := range a.Args {
		if !isInstance(arg, general.Args[i], of) {
			return false
		}
	}
	return true
}

func areInstances(list, general []api.Type) bool {
	of := map[int]api.Type{}
	for i, a := range list {
		if !isInstance(a, general[i], of) {
			return false
		}
	}
	return true
}

// bodies calls what to do with each body of thrown sources, its types and its error.
func bodies(t *testing.T, seed int64, count int, look func(d dice, text string, x api.Index, b api.Body, list []api.Type, err error)) {
	t.Helper()
	thrown(t, seed, count, func(d dice, text string, items []api.Item, x api.Index) {
		for _, p := range x.Preds[7:] {
			b, err := flat.Flatten(items, x, p.Key)
			if err != nil {
				t.Fatalf("%s: %v", text, err)
			}
			list, err := types.Infer(x, b)
			look(d, text, x, b, list, err)
		}
	})
}

// P7.2: every goal is well typed.
func TestWellTyped(t *testing.T) {
	good := 0
	bodies(t, 11, 1500, func(_ dice, text string, x api.Index, b api.Body, list []api.Type, err error) {
		if err != nil {
			return
		}
		good++
		if !wellTypedAt(x, b, list, map[string]api.Type{}) {
			t.Errorf("%s: %v isn't well typed with %s", text, b, exact(list))
		}
	})
	if good < 3000 {
		t.Error(good)
	}
}

// further is types with others for their unknowns and rigid variables.
func (d dice) further(list []api.Type, of map[string]api.Type) []api.Type {
	unknowns := map[int]api.Type{}
	var change func(a api.Type) api.Type
	change = func(a api.Type) api.Type {
		if a.Kind == api.TyFree {
			if _, ok := unknowns[a.Var]; !ok {
				unknowns[a.Var] = one(d, d.typ(2), free(d.Intn(9)), data("list", free(d.Intn(3))))
			}
			return unknowns[a.Var]
		}
		if other, ok := of[a.Name]; ok && a.Kind == api.TyRigid {
			return other
		}
		made := a
		made.Args = nil
		for _, arg := range a.Args {
			made.Args = append(made.Args, change(arg))
		}
		return made
	}
	var made []api.Type
	for _, a := range list {
		made = append(made, change(a))
	}
	return made
}

// P7.3: the types are well typed whatever is unified further, and whatever stands in place of the rigid types.
func TestFurther(t *testing.T) {
	good, others := 0, 0
	bodies(t, 12, 800, func(d dice, text string, x api.Index, b api.Body, list []api.Type, err error) {
		if err != nil {
			return
		}
		for range 4 {
			of := map[string]api.Type{"A": one(d, d.typ(2), free(d.Intn(9))), "B": one(d, d.typ(2), rigid("A"))}
			changed := d.further(list, of)
			good++
			if form(changed) != form(list) {
				others++
			}
			if !wellTypedAt(x, b, changed, of) {
				t.Fatalf("%s: %v isn't well typed with %s, but with %s", text, b, exact(changed), exact(list))
			}
		}
	})
	if good < 6000 || others < 4000 {
		t.Error(good, others)
	}
}

// P7.3: whatever is well typed is what was inferred with something for its unknowns: one type of it is another one here.
func TestMostGeneral(t *testing.T) {
	counts := map[bool]int{}
	bodies(t, 13, 800, func(d dice, text string, x api.Index, b api.Body, list []api.Type, err error) {
		arity := len(declaredTypes(x, b))
		if err != nil || b.Vars == arity {
			return
		}
		for range 20 {
			changed := d.further(list, nil)
			changed[arity+d.Intn(b.Vars-arity)] = one(d, d.typ(1), d.typ(2), one(d, changed...))
			fits := wellTypedAt(x, b, changed, map[string]api.Type{})
			counts[fits]++
			if fits != areInstances(changed, list) {
				t.Fatalf("%s: %v with %s: %t, inferred %s", text, b, exact(changed), fits, exact(list))
			}
		}
	})
	if counts[true] < 2000 || counts[false] < 10000 {
		t.Error(counts)
	}
}

// universe is some types that variables may have.
func universe() []api.Type {
	return []api.Type{integer(), data("t"), rigid("A"), rigid("B"), data("list", integer()), data("list", data("t")), data("list", rigid("A")),
		data("list", data("list", integer())), data("duo", integer(), data("t")), data("nest", integer()), data("nest", data("list", integer())), data("ghost", integer())}
}

// assignments calls what to do with each way to give variables types of the universe behind those that they have.
func assignments(list []api.Type, vars int, look func([]api.Type)) {
	if len(list) == vars {
		look(list)
		return
	}
	for _, a := range universe() {
		assignments(append(slices.Clone(list), a), vars, look)
	}
}

// P7.2, P7.3: of all types of a universe just those are well typed that are what was inferred with something for its unknowns;
// none if the answer is ErrTypes.
func TestUniverse(t *testing.T) {
	counts := map[bool]int{}
	wrong := 0
	bodies(t, 14, 3000, func(_ dice, text string, x api.Index, b api.Body, list []api.Type, err error) {
		declared := declaredTypes(x, b)
		if err == api.ErrLarge || b.Vars > len(declared)+3 {
			return
		}
		if err != nil {
			wrong++
		}
		var args []api.Type
		for _, e := range declared {
			args = append(args, unify.Instance(e, nil))
		}
		assignments(args, b.Vars, func(some []api.Type) {
			fits := wellTypedAt(x, b, some, map[string]api.Type{})
			counts[fits]++
			if fits != (err == nil && areInstances(some, list)) {
				t.Fatalf("%s: %v with %s: %t, inferred %s, %v", text, b, exact(some), fits, exact(list), err)
			}
		})
	})
	if wrong < 50 || counts[true] < 3000 || counts[false] < 100000 {
		t.Error(wrong, counts)
	}
}
