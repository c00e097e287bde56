package data_test

import (
	"bytes"
	"encoding/binary"
	"fmt"
	"math"
	"slices"
	"testing"

	"augur/api"
	"augur/data"
	"augur/unify"
)

// The document once more, in other forms.

// put is a declared type with types in place of its variables.
func put(e api.TypeExpr, of map[string]api.Type) api.Type {
	if e.Var {
		return of[e.Name]
	}
	if e.Name == "int" {
		return integer()
	}
	a := typed(e.Name)
	for _, arg := range e.Args {
		a.Args = append(a.Args, put(arg, of))
	}
	return a
}

// declaration is the item of a type, and types for its variables.
func declaration(x api.Index, a api.Type) (api.Item, map[string]api.Type) {
	at := slices.IndexFunc(x.Types, func(it api.Item) bool { return it.Name == a.Name && len(it.Vars) == len(a.Args) })
	if a.Kind != api.TyData || at < 0 {
		return api.Item{}, nil
	}
	of := map[string]api.Type{}
	for i, name := range x.Types[at].Vars {
		of[name] = a.Args[i]
	}
	return x.Types[at], of
}

// counter counts domains, each once, and finds their data by number alone.
type counter struct {
	x     api.Index
	sizes map[string]int
}

const plenty = 1 << 20

// size is how many data a type has, up to plenty.
func (c counter) size(a api.Type, depth int) int {
	switch {
	case a.Kind == api.TyInt:
		return 3
	case a.Kind == api.TyRigid || a.Kind == api.TyFree:
		return 1
	case depth < 1 || depth > 4:
		return 0
	}
	asked := fmt.Sprintf("%d %+v", depth, a)
	if size, ok := c.sizes[asked]; ok {
		return size
	}
	sum := 0
	it, of := declaration(c.x, a)
	for _, decl := range it.Ctors {
		sum += c.rows(decl, of, depth)
	}
	c.sizes[asked] = min(sum, plenty)
	return c.sizes[asked]
}

// rows is how many data a constructor has.
func (c counter) rows(decl api.CtorDecl, of map[string]api.Type, depth int) int {
	product := 1
	for _, arg := range decl.Args {
		product = min(product*c.size(put(arg, of), depth-1), plenty)
	}
	return product
}

// nth is a type's data with a number: the arguments are its digits.
func (c counter) nth(a api.Type, depth, n int) api.Data {
	it, of := declaration(c.x, a)
	for _, decl := range it.Ctors {
		size := c.rows(decl, of, depth)
		if n >= size {
			n -= size
			continue
		}
		args := make([]api.Data, len(decl.Args))
		for i := len(args) - 1; i >= 0; i-- {
			field := put(decl.Args[i], of)
			base := c.size(field, depth-1)
			args[i] = c.nth(field, depth-1, n%base)
			n /= base
		}
		return made(decl.Name, args...)
	}
	return number(n)
}

// P10.1: the domains of thrown types, by number.
func TestDomainAgain(t *testing.T) {
	x, d := read(t, universe), newDice(2)
	counts := map[int]int{}
	for range 1500 {
		a, depth := d.typ(3), one(d, 1, 2, 3, 4, 4, d.Intn(8)-2)
		c := counter{x, map[string]int{}}
		list := data.Domain(x, a, depth)
		what := fmt.Sprint(unify.Text(a), " at ", depth)
		held(t, what, len(list), min(c.size(a, depth), 300))
		for n, got := range list {
			if want := c.nth(a, depth, n); data.Compare(got, want) != 0 || form(got) != form(want) {
				t.Fatalf("%s: number %d is %+v, not %+v", what, n, got, want)
			}
		}
		counts[min(len(list), 300)/100]++
	}
	if counts[0] < 300 || counts[1] < 10 || counts[2] < 5 || counts[3] < 50 {
		t.Error(counts)
	}
}

// step is one thing that Check asks: that two types are unified, or, of no Kind, that a constructor is there.
type step struct{ a, b api.Type }

// steps is all that Check asks, written down first.
type steps struct {
	x        api.Index
	list     []step
	unknowns int
}

// fresh is further unknowns for variables, by name.
func (s *steps) fresh(variables []string) map[string]api.Type {
	of := map[string]api.Type{}
	for _, name := range variables {
		of[name] = free(s.unknowns)
		s.unknowns++
	}
	return of
}

// data writes down what is asked of data, and then that they have a declared type.
func (s *steps) data(d api.Data, declared api.Type) {
	if !d.Ctor {
		s.list = append(s.list, step{declared, integer()})
		return
	}
	for _, it := range s.x.Types {
		for _, decl := range it.Ctors {
			if decl.Name != d.Name || len(decl.Args) != len(d.Args) {
				continue
			}
			of := s.fresh(it.Vars)
			for i, arg := range d.Args {
				s.data(arg, put(decl.Args[i], of))
			}
			own := typed(it.Name)
			for _, name := range it.Vars {
				own.Args = append(own.Args, of[name])
			}
			s.list = append(s.list, step{declared, own})
			return
		}
	}
	s.list = append(s.list, step{})
}

// checkedAgain is what Check answers for good data, by the steps.
func checkedAgain(x api.Index, types []api.TypeExpr, list []api.Data) error {
	if len(types) != len(list) {
		return api.ErrData
	}
	s := &steps{x: x}
	of := s.fresh(unify.Names(types))
	for i, d := range list {
		s.data(d, put(types[i], of))
	}
	u := unify.New()
	for range s.unknowns {
		u.Fresh()
	}
	for _, ask := range s.list {
		if ask.b.Kind == 0 {
			return api.ErrData
		}
		switch err := u.Unify(ask.a, ask.b); err {
		case nil:
		case api.ErrLarge:
			return err
		default:
			return api.ErrData
		}
	}
	return nil
}

// P10.1, P4: data of thrown types, most of which nearly fit.
func TestCheckAgain(t *testing.T) {
	x, d := read(t, universe+"type large(T) = large(T, "+sized(201)+") | l(T). type pair(A, B) = pair(A, B). type box(T) = box(T)."), newDice(3)
	counts := map[error]int{}
	for range 30000 {
		var exprs []api.TypeExpr
		var list []api.Data
		spoilt := one(d, 3, 10, 50, 1000)
		of := map[string]api.Type{}
		for _, name := range []string{"VT", "Vint", "Vt", "V?0", "V?1", "V?2"} {
			of[name] = d.typ(2)
		}
		for range d.Intn(5) {
			expr := exprOf(d.typ(2))
			exprs = append(exprs, expr)
			list = append(list, d.large(d.value(x, put(expr, of), 5, spoilt)))
		}
		if d.Intn(30) == 0 {
			list = list[:len(list)/2]
		}
		want := checkedAgain(x, exprs, list)
		held(t, fmt.Sprintf("%+v of %+v", list, exprs), data.Check(x, exprs, list), want)
		counts[want]++
	}
	if counts[nil] < 5000 || counts[api.ErrData] < 5000 || counts[api.ErrLarge] < 1000 {
		t.Error(counts)
	}
}

// large is data in which a part may be of a large type.
func (d dice) large(a api.Data) api.Data {
	switch {
	case d.Intn(30) == 0:
		return made("large", a, number(1))
	case d.Intn(60) == 0:
		return made("l", a)
	case d.Intn(60) == 0:
		return tree2(one(d, 99, 100, 101, 127), a)
	}
	a.Args = slices.Clone(a.Args)
	for i := range a.Args {
		a.Args[i] = d.large(a.Args[i])
	}
	return a
}

// tree2 is data of so many pairs, one of whose leaves is given.
func tree2(pairs int, leaf api.Data) api.Data {
	if pairs == 0 {
		return leaf
	}
	return made("pair", tree2((pairs-1)/2, number(0)), tree2(pairs-1-(pairs-1)/2, leaf))
}

// fits tells from the top whether data have a type without variables.
func fits(x api.Index, d api.Data, a api.Type) bool {
	if a.Kind == api.TyInt || !d.Ctor {
		return a.Kind == api.TyInt && !d.Ctor
	}
	it, of := declaration(x, a)
	for _, decl := range it.Ctors {
		if decl.Name != d.Name || len(decl.Args) != len(d.Args) {
			continue
		}
		for i, arg := range d.Args {
			if !fits(x, arg, put(decl.Args[i], of)) {
				return false
			}
		}
		return true
	}
	return false
}

// ground is a type with ints in place of its variables.
func ground(a api.Type) api.Type {
	if a.Kind != api.TyData {
		return integer()
	}
	a.Args = slices.Clone(a.Args)
	for i := range a.Args {
		a.Args[i] = ground(a.Args[i])
	}
	return a
}

// P4: data are refused if and only if they don't have the types, told from the top.
func TestCheckFromTheTop(t *testing.T) {
	x, d := read(t, universe), newDice(4)
	counts := map[bool]int{}
	for range 30000 {
		of := map[string]api.Type{}
		var exprs []api.TypeExpr
		var list []api.Data
		want := true
		for range 1 + d.Intn(3) {
			a := ground(d.typ(3))
			e := d.value(x, a, 6, one(d, 10, 50, 1000))
			exprs, list = append(exprs, exprOf(a)), append(list, e)
			want = fits(x, e, put(exprOf(a), of)) && want
		}
		counts[want]++
		got := data.Check(x, exprs, list)
		if want != (got == nil) || got != nil && got != api.ErrData {
			t.Fatalf("%+v of %+v: %v", list, exprs, got)
		}
	}
	if counts[true] < 5000 || counts[false] < 5000 {
		t.Error(counts)
	}
}

// sortKey is bytes whose order is that of the data.
func sortKey(d api.Data) []byte {
	if !d.Ctor {
		return binary.BigEndian.AppendUint64([]byte{0}, uint64(d.Int)-uint64(1<<63))
	}
	b := []byte{1}
	for _, c := range []byte(d.Name) {
		b = append(b, 1, c)
	}
	b = binary.BigEndian.AppendUint32(append(b, 0), uint32(len(d.Args)))
	for _, arg := range d.Args {
		b = append(b, sortKey(arg)...)
	}
	return b
}

// P10.1: thrown data are in the order of their keys.
func TestCompareAgain(t *testing.T) {
	d, counts := newDice(5), map[int]int{}
	for range 50000 {
		a := d.good(4)
		b := d.changed(a)
		if d.Intn(4) == 0 {
			b = d.good(3)
		}
		want := bytes.Compare(sortKey(a), sortKey(b))
		if data.Compare(a, b) != want || data.Compare(b, a) != -want {
			t.Fatalf("%+v and %+v: %d and %d", a, b, data.Compare(a, b), data.Compare(b, a))
		}
		counts[want]++
	}
	if counts[-1] < 10000 || counts[0] < 2000 || counts[1] < 10000 {
		t.Error(counts)
	}
	if data.Compare(number(math.MinInt), number(math.MaxInt)) != -1 {
		t.Error("ints")
	}
}
