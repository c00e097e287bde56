package flat

import "augur/api"

// noName is the variable that is another one wherever it stands.
const noName = "_"

// maker makes goals of a predicate's clauses. What a term or a goal comes to is put behind the list that was made so far,
// as lists of lists would be copied again at each level.
type maker struct {
	vars    int            // how many numbers are used
	numbers map[string]int // of the names of the clause that is being made
}

// clause is the whole of a clause, whose names are no other clause's.
func (m *maker) clause(c api.Item) api.Flat {
	m.numbers = map[string]int{}
	var list []api.Flat
	for x, t := range c.Args {
		list = m.unify(list, x, t)
	}
	return wholeOf(m.goal(list, c.Body))
}

// next is a number that isn't used yet.
func (m *maker) next() int {
	m.vars++
	return m.vars - 1
}

// number is a name's number, which it gets here if it has none.
func (m *maker) number(name string) int {
	if name == noName {
		return m.next()
	}
	x, ok := m.numbers[name]
	if !ok {
		x = m.next()
		m.numbers[name] = x
	}
	return x
}

// numberOf is the number that stands for a term.
func (m *maker) numberOf(t api.Term) int {
	if t.Kind == api.TVar {
		return m.number(t.Name)
	}
	return m.next()
}

// unify adds what unifies a number with a term.
func (m *maker) unify(list []api.Flat, x int, t api.Term) []api.Flat {
	switch t.Kind {
	case api.TVar:
		return m.unifyName(list, x, t.Name)
	case api.TInt:
		return append(list, api.Flat{Kind: api.FInt, X: x, Int: t.Int})
	case api.TCtor:
		return m.unifyCtor(list, x, t)
	}
	return list
}

// unifyName needs no goal where the name is first met: the number is its own from there on.
func (m *maker) unifyName(list []api.Flat, x int, name string) []api.Flat {
	if name == noName {
		return list
	}
	if y, ok := m.numbers[name]; ok {
		return append(list, api.Flat{Kind: api.FSame, X: x, Y: y})
	}
	m.numbers[name] = x
	return list
}

// unifyCtor numbers all arguments ahead of what is within them.
func (m *maker) unifyCtor(list []api.Flat, x int, t api.Term) []api.Flat {
	var args []int
	for _, arg := range t.Args {
		args = append(args, m.numberOf(arg))
	}
	list = append(list, api.Flat{Kind: api.FCtor, X: x, Ctor: api.Key{Name: t.Name, Arity: len(args)}, Args: args})
	for i, arg := range t.Args {
		if arg.Kind != api.TVar {
			list = m.unify(list, args[i], arg)
		}
	}
	return list
}

// place adds what gives a term a number, and tells the number.
func (m *maker) place(list []api.Flat, t api.Term) ([]api.Flat, int) {
	x := m.numberOf(t)
	if t.Kind != api.TVar {
		list = m.unify(list, x, t)
	}
	return list, x
}

// goal adds what a goal comes to.
func (m *maker) goal(list []api.Flat, g api.Goal) []api.Flat {
	switch g.Kind {
	case api.GFail:
		return append(list, api.Flat{Kind: api.FFail})
	case api.GUnify:
		return m.equation(list, g.A, g.B)
	case api.GCall:
		return m.call(list, g)
	case api.GAnd:
		for _, part := range g.Goals {
			list = m.goal(list, part)
		}
	case api.GOr:
		return append(list, api.Flat{Kind: api.FOr, Goals: m.wholes(g.Goals)})
	case api.GNot:
		return append(list, api.Flat{Kind: api.FNot, Goals: m.wholes(g.Goals)})
	case api.GThrow:
		list, x := m.place(list, g.A)
		return append(list, api.Flat{Kind: api.FThrow, X: x})
	case api.GTry:
		x := m.number(g.Name)
		return append(list, api.Flat{Kind: api.FTry, X: x, Goals: m.wholes(g.Goals)})
	}
	return list
}

// equation adds what unifies two terms.
func (m *maker) equation(list []api.Flat, a, b api.Term) []api.Flat {
	if a.Kind == api.TVar && b.Kind == api.TVar {
		if a.Name == noName || b.Name == noName {
			return list
		}
		x, y := m.number(a.Name), m.number(b.Name)
		return append(list, api.Flat{Kind: api.FSame, X: x, Y: y})
	}
	if b.Kind == api.TVar {
		a, b = b, a
	}
	list, x := m.place(list, a)
	return m.unify(list, x, b)
}

// call adds a call, behind what its arguments come to.
func (m *maker) call(list []api.Flat, g api.Goal) []api.Flat {
	var args []int
	for _, arg := range g.Args {
		var x int
		list, x = m.place(list, arg)
		args = append(args, x)
	}
	return append(list, api.Flat{Kind: api.FCall, Pred: api.Key{Name: g.Name, Arity: len(args)}, Args: args})
}

// wholes is the whole of each goal.
func (m *maker) wholes(goals []api.Goal) []api.Flat {
	var list []api.Flat
	for _, g := range goals {
		list = append(list, wholeOf(m.goal(nil, g)))
	}
	return list
}

// wholeOf is one goal that says what a list says.
func wholeOf(list []api.Flat) api.Flat { return oneOf(list, api.FTrue, api.FAnd) }

// oneOf is one goal for a list: its only one, or one of the kind for none, or one of the kind for several.
func oneOf(list []api.Flat, none, several int) api.Flat {
	switch len(list) {
	case 0:
		return api.Flat{Kind: none}
	case 1:
		return list[0]
	}
	return api.Flat{Kind: several, Goals: list}
}
