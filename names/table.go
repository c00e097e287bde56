package names

import (
	"slices"

	"augur/api"
)

// intName is the type that no source declares.
const intName = "int"

// table is an index in the making. Each name of a source is asked for, so the names stand in maps beside it.
type table struct {
	api.Index
	arity  map[string]int  // of a type: how many variables it has
	ctorAt map[api.Key]int // of a constructor: its place among Ctors
	predAt map[api.Key]int // of a predicate: its place among Preds
}

// newTable is a table of what every source has.
func newTable() *table {
	t := &table{arity: map[string]int{intName: 0}, ctorAt: map[api.Key]int{}, predAt: map[api.Key]int{}}
	for _, k := range builtins {
		t.addPred(builtin(k))
	}
	return t
}

// declare takes in a type or a predicate; false if its name, or one in it, is taken.
func (t *table) declare(_ int, it api.Item) bool {
	switch it.Kind {
	case api.ItemType:
		return t.addType(it)
	case api.ItemPred:
		key := api.Key{Name: it.Name, Arity: len(it.Types)}
		return t.addPred(api.Pred{Key: key, Types: copyOfTypes(it.Types)})
	}
	return true
}

func (t *table) addType(it api.Item) bool {
	if !claim(t.arity, it.Name, len(it.Vars)) || !distinct(it.Vars) {
		return false
	}
	t.Types = append(t.Types, copyOfType(it))
	for tag, decl := range it.Ctors {
		key := api.Key{Name: decl.Name, Arity: len(decl.Args)}
		if !claim(t.ctorAt, key, len(t.Ctors)) {
			return false
		}
		ctor := api.Ctor{Key: key, Type: it.Name, Vars: it.Vars, Args: decl.Args, Tag: tag}
		t.Ctors = append(t.Ctors, copyOfCtor(ctor))
	}
	return true
}

func (t *table) addPred(p api.Pred) bool {
	if !claim(t.predAt, p.Key, len(t.Preds)) {
		return false
	}
	t.Preds = append(t.Preds, p)
	return true
}

// attach takes in a mode or a clause; false if it isn't one of a declared predicate, or the mode isn't new.
func (t *table) attach(at int, it api.Item) bool {
	switch it.Kind {
	case api.ItemMode:
		p := t.declared(api.Key{Name: it.Name, Arity: len(it.In)})
		if p == nil || Mode(*p, it.In) >= 0 {
			return false
		}
		p.Modes = append(p.Modes, copyOfMode(api.Mode{In: it.In, Det: it.Det}))
	case api.ItemClause:
		p := t.declared(api.Key{Name: it.Name, Arity: len(it.Args)})
		if p == nil {
			return false
		}
		p.Clauses = append(p.Clauses, at)
	}
	return true
}

// declared is the predicate with a key, where it can be added to; nil if there is none, or it is built in.
func (t *table) declared(k api.Key) *api.Pred {
	at, ok := t.predAt[k]
	if !ok || Builtin(k) {
		return nil
	}
	return &t.Preds[at]
}

// check tells whether every type, call and constructor in an item is declared.
func (t *table) check(_ int, it api.Item) bool {
	switch it.Kind {
	case api.ItemType:
		ofThis := func(name string) bool { return slices.Contains(it.Vars, name) }
		return all(it.Ctors, func(decl api.CtorDecl) bool { return t.haveTypes(decl.Args, ofThis) })
	case api.ItemPred:
		return t.haveTypes(it.Types, func(string) bool { return true })
	case api.ItemClause:
		return all(it.Args, t.hasTerm) && t.hasGoal(it.Body)
	}
	return true
}

// haveTypes tells whether types are declared, in which the variables may stand that mayStand allows.
func (t *table) haveTypes(list []api.TypeExpr, mayStand func(string) bool) bool {
	return all(list, func(e api.TypeExpr) bool {
		if e.Var {
			return mayStand(e.Name)
		}
		arity, ok := t.arity[e.Name]
		return ok && arity == len(e.Args) && t.haveTypes(e.Args, mayStand)
	})
}

// hasGoal tells whether each call and each constructor in a goal is declared.
func (t *table) hasGoal(g api.Goal) bool {
	if g.Kind == api.GCall {
		if _, ok := t.predAt[api.Key{Name: g.Name, Arity: len(g.Args)}]; !ok {
			return false
		}
	}
	return t.hasTerm(g.A) && t.hasTerm(g.B) && all(g.Args, t.hasTerm) && all(g.Goals, t.hasGoal)
}

// hasTerm tells whether each constructor in a term is declared.
func (t *table) hasTerm(term api.Term) bool {
	if term.Kind == api.TCtor {
		if _, ok := t.ctorAt[api.Key{Name: term.Name, Arity: len(term.Args)}]; !ok {
			return false
		}
	}
	return all(term.Args, t.hasTerm)
}

func hasMode(p api.Pred) bool { return len(p.Modes) > 0 }

// claim gives a name a number; false if it has one.
func claim[K comparable](numbers map[K]int, name K, number int) bool {
	if _, taken := numbers[name]; taken {
		return false
	}
	numbers[name] = number
	return true
}

// distinct tells whether no name is in a list twice.
func distinct(list []string) bool {
	places := map[string]int{}
	for at, name := range list {
		if !claim(places, name, at) {
			return false
		}
	}
	return true
}

// all tells whether something holds for each of a list.
func all[T any](list []T, holds func(T) bool) bool {
	return !slices.ContainsFunc(list, func(x T) bool { return !holds(x) })
}
