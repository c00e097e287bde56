package unify_test

import (
	"math/rand"
	"slices"
	"testing"

	"augur/api"
	"augur/unify"
)

// The document once more, in another form: a type is a row of signs, each ahead of those of its arguments, and what the
// unknowns come to is kept resolved. Two rows are unified at the first place where they differ, until they don't.

// sign is an unknown (of no word), a rigid type (of an arity below 0), or a word with so many arguments.
type sign struct {
	word     string
	arity, v int
}

type row []sign

// rowOf is a type's row as it stands.
func rowOf(a api.Type) row { return addRow(nil, a) }

func addRow(r row, a api.Type) row {
	switch a.Kind {
	case api.TyInt:
		return append(r, sign{word: "int"})
	case api.TyRigid:
		return append(r, sign{word: a.Name, arity: -1})
	case api.TyFree:
		return append(r, unknown(a.Var))
	}
	r = append(r, sign{word: a.Name, arity: len(a.Args)})
	for _, arg := range a.Args {
		r = addRow(r, arg)
	}
	return r
}

func unknown(v int) sign { return sign{v: v} }

func isUnknown(s sign) bool { return s.word == "" }

// part is the type in a row that begins at a place.
func (r row) part(at int) row {
	end := at
	for open := 1; open > 0; end++ {
		open += max(r[end].arity, 0) - 1
	}
	return r[at:end]
}

// with is a row with another one in place of an unknown.
func (r row) with(s sign, other row) row {
	if !slices.Contains(r, s) {
		return r
	}
	var made row
	for _, x := range r {
		if x == s {
			made = append(made, other...)
		} else {
			made = append(made, x)
		}
	}
	return made
}

// model is what each unknown comes to.
type model []row

func (m *model) fresh() { *m = append(*m, row{unknown(len(*m))}) }

// resolved is a row with what the unknowns come to in their place.
func (m *model) resolved(r row) row {
	var made row
	for _, s := range r {
		if isUnknown(s) {
			made = append(made, (*m)[s.v]...)
		} else {
			made = append(made, s)
		}
	}
	return made
}

func (m *model) unify(a, b api.Type) error {
	x, y := m.resolved(rowOf(a)), m.resolved(rowOf(b))
	for {
		at := 0
		for at < len(x) && at < len(y) && x[at] == y[at] {
			at++
		}
		if at == len(x) && at == len(y) {
			return nil
		}
		s, other := x[at], y.part(at)
		if !isUnknown(s) {
			s, other = y[at], x.part(at)
		}
		if !isUnknown(s) || slices.Contains(other, s) {
			return api.ErrTypes
		}
		var then model
		for _, r := range *m {
			then = append(then, r.with(s, other))
		}
		if slices.ContainsFunc(then, func(r row) bool { return len(r) > 200 }) {
			return api.ErrLarge
		}
		*m = then
		x, y = x.with(s, other), y.with(s, other)
	}
}

// dice throws types of few names, so that most of them nearly fit one another.
type dice struct{ *rand.Rand }

func one[T any](d dice, list ...T) T { return list[d.Intn(len(list))] }

// many is so many of what make makes.
func many[T any](count int, make func() T) []T {
	var list []T
	for range count {
		list = append(list, make())
	}
	return list
}

// leaf is a type without arguments; mostly an unknown.
func (d dice) leaf(unknowns int) api.Type {
	if d.Intn(3) > 0 {
		return free(d.Intn(unknowns))
	}
	return one(d, integer(), integer(), rigid("T"), data("a"))
}

func (d dice) typ(unknowns, depth int) api.Type {
	if depth == 0 || d.Intn(3) == 0 {
		return d.leaf(unknowns)
	}
	name, arity := one(d, "f", "f", "f", "g"), one(d, 2, 2, 2, 2, 2, 1)
	return data(name, many(arity, func() api.Type { return d.typ(unknowns, depth-1) })...)
}

// spoilt is a type with unknowns in place of some parts, so that it fits the other mostly.
func (d dice) spoilt(a api.Type, unknowns int) api.Type {
	switch d.Intn(12) {
	case 0:
		return d.leaf(unknowns)
	case 1, 2:
		return free(d.Intn(unknowns))
	}
	a.Args = slices.Clone(a.Args)
	for i := range a.Args {
		a.Args[i] = d.spoilt(a.Args[i], unknowns)
	}
	return a
}

// large is a type of many nodes with few unknowns in it.
func (d dice) large(unknowns int) api.Type {
	a := tower(one(d, 20, 60, 95, 99, 100, 101, 150, 195, 199, 200), d.leaf(unknowns))
	if d.Intn(3) == 0 && count(a) < 100 {
		return data("f", a, a)
	}
	return a
}

// pair is two types to be unified.
func (d dice) pair(unknowns int) (api.Type, api.Type) {
	a := d.typ(unknowns, d.Intn(4))
	b := d.spoilt(a, unknowns)
	switch d.Intn(8) {
	case 0, 1:
		a, b = d.leaf(unknowns), d.typ(unknowns, 1+d.Intn(2))
	case 2, 5:
		a, b = d.leaf(unknowns), d.large(unknowns)
	case 3:
		a, b = d.typ(unknowns, 2), d.typ(unknowns, 2)
	case 4:
		a, b = d.leaf(unknowns), d.leaf(unknowns)
	}
	if d.Intn(2) == 0 {
		return b, a
	}
	return a, b
}

// played plays games: a table gets unknowns from time to time, and pairs of thrown types, which look is to unify.
func played(seed int64, games int, look func(d dice, u *unify.Table, a, b api.Type)) {
	d := dice{rand.New(rand.NewSource(seed))}
	for range games {
		u := unify.New()
		for range 1 + d.Intn(40) {
			for d.Intn(3) == 0 || u.Len() < 2 {
				u.Fresh()
			}
			a, b := d.pair(u.Len())
			look(d, u, a, b)
		}
	}
}

// rows is what the unknowns of a table come to.
func rows(t *testing.T, u *unify.Table) model {
	t.Helper()
	var list model
	for v := range u.Len() {
		a, err := u.Resolve(free(v))
		if err != nil {
			t.Fatalf("?%d isn't resolved: %v", v, err)
		}
		list = append(list, rowOf(a))
	}
	return list
}

// P6.1: what is answered, and what the unknowns come to, by the document once more.
func TestUnifyAgain(t *testing.T) {
	var m model
	var of *unify.Table
	counts, large := map[error]int{}, 0
	played(1, 2000, func(d dice, u *unify.Table, a, b api.Type) {
		if of != u {
			m, of = nil, u
		}
		for len(m) < u.Len() {
			m.fresh()
		}
		before, want := m, m.unify(a, b)
		what := unify.Text(a) + " = " + unify.Text(b)
		if err := u.Unify(a, b); err != want {
			t.Fatalf("%s of %v: %v, not %v", what, before, err, want)
		}
		counts[want]++
		if got := rows(t, u); !slices.EqualFunc(got, m, slices.Equal) {
			t.Fatalf("%s of %v: %v, not %v", what, before, got, m)
		}
		wanted := m.resolved(rowOf(b))
		got, err := u.Resolve(b)
		if len(wanted) > 200 {
			large++
			held(t, what, err, api.ErrLarge)
			held(t, what, got, api.Type{})
			return
		}
		if err != nil || !slices.Equal(rowOf(got), wanted) {
			t.Fatalf("%s of %v: %v, %v", what, m, got, err)
		}
	})
	if counts[nil] < 15000 || counts[api.ErrTypes] < 5000 || counts[api.ErrLarge] < 500 || large < 500 {
		t.Error(counts, large)
	}
}

// P6.2: what is unified is equal, and to unify it again changes nothing.
func TestUnifiedIsEqual(t *testing.T) {
	equal := 0
	played(2, 2000, func(_ dice, u *unify.Table, a, b api.Type) {
		if u.Unify(a, b) != nil {
			return
		}
		x, errX := u.Resolve(a)
		y, errY := u.Resolve(b)
		what := unify.Text(a) + " = " + unify.Text(b)
		held(t, what, errX, errY)
		if errX == nil {
			equal++
		}
		if !unify.Same(x, y) {
			t.Fatalf("%s: %s and %s", what, unify.Text(x), unify.Text(y))
		}
		before := rows(t, u)
		held(t, what+" again", u.Unify(a, b), nil)
		held(t, what+" the other way", u.Unify(b, a), nil)
		if errX == nil {
			held(t, what+" resolved", u.Unify(x, y), nil)
		}
		if !slices.EqualFunc(rows(t, u), before, slices.Equal) {
			t.Fatalf("%s: %v, and %v before", what, rows(t, u), before)
		}
	})
	if equal < 10000 {
		t.Error(equal)
	}
}

// P6.3: a type resolved later is the one resolved earlier with unknowns replaced; what was bound isn't unbound by an error.
func TestBoundRemainsBound(t *testing.T) {
	type kept struct{ a, resolved api.Type }
	var of *unify.Table
	var earlier []kept
	grown := 0
	played(3, 400, func(d dice, u *unify.Table, a, b api.Type) {
		if of != u {
			of, earlier = u, nil
		}
		for _, x := range []api.Type{a, free(d.Intn(u.Len()))} {
			if resolved, err := u.Resolve(x); err == nil {
				earlier = append(earlier, kept{x, resolved})
			}
		}
		err := u.Unify(a, b)
		m := rows(t, u)
		for _, k := range earlier {
			want := m.resolved(rowOf(k.resolved))
			later, resolveErr := u.Resolve(k.a)
			if len(want) > 200 {
				held(t, unify.Text(k.a), resolveErr, api.ErrLarge)
				continue
			}
			if !slices.Equal(rowOf(later), want) {
				t.Fatalf("%s was %s, is %s behind %s = %s (%v)", unify.Text(k.a), unify.Text(k.resolved), unify.Text(later), unify.Text(a), unify.Text(b), err)
			}
			if !unify.Same(later, k.resolved) {
				grown++
			}
		}
	})
	if grown < 10000 {
		t.Error(grown)
	}
}

// P6.1, P7: other numbers and names in the same places come to the same.
func TestNamesDontMatter(t *testing.T) {
	other := map[*unify.Table]*unify.Table{}
	played(4, 500, func(_ dice, u *unify.Table, a, b api.Type) {
		if other[u] == nil {
			clear(other)
			other[u] = table(3)
		}
		for other[u].Len() < u.Len()+3 {
			other[u].Fresh()
		}
		held(t, unify.Text(a)+" = "+unify.Text(b), other[u].Unify(renamed(a), renamed(b)), u.Unify(a, b))
		for v := range u.Len() {
			x, _ := u.Resolve(free(v))
			y, _ := other[u].Resolve(free(v + 3))
			held(t, "renamed", unify.Text(y), unify.Text(renamed(x)))
		}
	})
}

// renamed is a type with other names, and numbers that are greater by 3.
func renamed(a api.Type) api.Type {
	if a.Kind == api.TyFree {
		a.Var += 3
	} else {
		a.Name = "x" + a.Name
	}
	a.Args = slices.Clone(a.Args)
	for i := range a.Args {
		a.Args[i] = renamed(a.Args[i])
	}
	return a
}
