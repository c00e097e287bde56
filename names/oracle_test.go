package names_test

import (
	"fmt"
	"math/rand"
	"slices"
	"sort"
	"strings"
	"testing"

	"augur/api"
	"augur/lex"
	"augur/names"
	"augur/parse"
	"augur/print"
)

// The rules once more: a source tells what it owns, which nobody else may, and what it needs, which something must offer.
// All are sentences; a source is well named if it owns nothing twice, and nothing that is needed isn't offered.

type claims struct{ owns, offers, needs []string }

func (c *claims) own(form string, values ...any) {
	c.owns = append(c.owns, fmt.Sprintf(form, values...))
}
func (c *claims) offer(form string, values ...any) {
	c.offers = append(c.offers, fmt.Sprintf(form, values...))
}
func (c *claims) need(form string, values ...any) {
	c.needs = append(c.needs, fmt.Sprintf(form, values...))
}

func (c *claims) types(list []api.TypeExpr, variable string) {
	for _, e := range list {
		if e.Var && variable != "" {
			c.need(variable, e.Name)
		} else if !e.Var {
			c.need("type %s of %d", e.Name, len(e.Args))
		}
		c.types(e.Args, variable)
	}
}

func (c *claims) terms(list ...api.Term) {
	for _, term := range list {
		if term.Kind == api.TCtor {
			c.need("constructor %s/%d", term.Name, len(term.Args))
		}
		c.terms(term.Args...)
	}
}

func (c *claims) goal(g api.Goal) {
	switch g.Kind {
	case api.GCall:
		c.need("predicate %s/%d", g.Name, len(g.Args))
		c.terms(g.Args...)
	case api.GUnify:
		c.terms(g.A, g.B)
	case api.GThrow:
		c.terms(g.A)
	}
	for _, part := range g.Goals {
		c.goal(part)
	}
}

func (c *claims) item(at int, it api.Item) {
	switch it.Kind {
	case api.ItemType:
		c.own("the type name %s", it.Name)
		c.offer("type %s of %d", it.Name, len(it.Vars))
		for _, name := range it.Vars {
			c.own("variable %s of item %d", name, at)
			c.offer("variable %s of item %d", name, at)
		}
		for _, decl := range it.Ctors {
			c.own("constructor %s/%d", decl.Name, len(decl.Args))
			c.offer("constructor %s/%d", decl.Name, len(decl.Args))
			c.types(decl.Args, "variable %s"+fmt.Sprintf(" of item %d", at))
		}
	case api.ItemPred:
		c.own("predicate %s/%d", it.Name, len(it.Types))
		c.offer("predicate %s/%d", it.Name, len(it.Types))
		c.offer("declared %s/%d", it.Name, len(it.Types))
		c.need("a mode of %s/%d", it.Name, len(it.Types))
		c.types(it.Types, "")
	case api.ItemMode:
		c.own("mode %v of %s", it.In, it.Name)
		c.offer("a mode of %s/%d", it.Name, len(it.In))
		c.need("declared %s/%d", it.Name, len(it.In))
	case api.ItemClause:
		c.need("declared %s/%d", it.Name, len(it.Args))
		c.terms(it.Args...)
		c.goal(it.Body)
	}
}

// wellNamed tells by the claims whether a source is well named.
func wellNamed(items []api.Item) bool {
	var c claims
	c.own("the type name int")
	c.offer("type int of 0")
	for _, p := range builtIn() {
		c.own("predicate %s/%d", p.Key.Name, p.Key.Arity)
		c.offer("predicate %s/%d", p.Key.Name, p.Key.Arity)
	}
	for at, it := range items {
		c.item(at, it)
	}
	sort.Strings(c.owns)
	for at := range c.owns {
		if at > 0 && c.owns[at] == c.owns[at-1] {
			return false
		}
	}
	for _, what := range c.needs {
		if !slices.Contains(c.offers, what) {
			return false
		}
	}
	return true
}

// indexOf is the index of a source that is well named, list by list.
func indexOf(items []api.Item) api.Index {
	x := api.Index{Preds: builtIn()}
	for _, it := range items {
		if it.Kind == api.ItemType {
			x.Types = append(x.Types, it)
			for tag, decl := range it.Ctors {
				x.Ctors = append(x.Ctors, api.Ctor{Key: key(decl.Name, len(decl.Args)), Type: it.Name, Vars: it.Vars, Args: decl.Args, Tag: tag})
			}
		}
		if it.Kind != api.ItemPred {
			continue
		}
		p := api.Pred{Key: key(it.Name, len(it.Types)), Types: it.Types}
		for at, of := range items {
			if of.Kind == api.ItemMode && key(of.Name, len(of.In)) == p.Key {
				p.Modes = append(p.Modes, api.Mode{In: of.In, Det: of.Det})
			}
			if of.Kind == api.ItemClause && key(of.Name, len(of.Args)) == p.Key {
				p.Clauses = append(p.Clauses, at)
			}
		}
		x.Preds = append(x.Preds, p)
	}
	return x
}

// dice throws sources that are well named, of few names, so that a small change makes most of them faulty.
type dice struct {
	*rand.Rand
	types, ctors, preds []api.Key
}

func one[T any](d *dice, list []T) T { return list[d.Intn(len(list))] }

// some are different keys of these names.
func (d *dice) some(most int, list ...string) []api.Key {
	var keys []api.Key
	for _, name := range list {
		for arity := range 4 {
			keys = append(keys, key(name, arity))
		}
	}
	d.Shuffle(len(keys), func(a, b int) { keys[a], keys[b] = keys[b], keys[a] })
	return keys[:1+d.Intn(most)]
}

// args is a list in parentheses of as many as what writes.
func args(arity int, what func() string) string {
	var list []string
	for range arity {
		list = append(list, what())
	}
	if arity == 0 {
		return ""
	}
	return "(" + strings.Join(list, ", ") + ")"
}

func (d *dice) typeExpr(depth int, variables []string) string {
	if depth == 0 || d.Intn(3) == 0 {
		return one(d, slices.Concat(variables, []string{"int"}))
	}
	of := one(d, d.types)
	return of.Name + args(of.Arity, func() string { return d.typeExpr(depth-1, variables) })
}

func (d *dice) term(depth int) string {
	if depth == 0 || d.Intn(2) == 0 {
		return one(d, []string{"X", "Y", "_", "0", "-5"})
	}
	of := one(d, d.ctors)
	return of.Name + args(of.Arity, func() string { return d.term(depth - 1) })
}

func (d *dice) goal(depth int) string {
	switch kind := d.Intn(9); {
	case kind == 0:
		return "true"
	case kind == 1:
		return "throw " + d.term(2)
	case kind == 2:
		return d.term(2) + " = " + d.term(2)
	case kind < 5 || depth == 0:
		of := one(d, slices.Concat(d.preds, []api.Key{key("add", 3), key("lt", 2), key("mod", 3), key("le", 2)}))
		return of.Name + args(of.Arity, func() string { return d.term(2) })
	case kind == 5:
		return "not " + d.goal(depth-1)
	case kind == 6:
		return "try (" + d.goal(depth-1) + ") catch E then (" + d.goal(depth-1) + ")"
	}
	return "(" + d.goal(depth-1) + one(d, []string{", ", " ; "}) + d.goal(depth-1) + ")"
}

// source is a text that is well named (but for rare clashes of predicates), item by item.
func (d *dice) source() []string {
	d.ctors, d.preds, d.types = d.some(4, "a", "b", "t"), d.some(3, "p", "q", "add", "lt"), nil
	for _, name := range []string{"t", "u", "p"}[:1+d.Intn(3)] {
		d.types = append(d.types, key(name, d.Intn(3)))
	}
	decls := make([][]string, len(d.types))
	for _, of := range d.ctors {
		at := d.Intn(len(d.types))
		variables := []string{"T", "U"}[:d.types[at].Arity]
		decls[at] = append(decls[at], of.Name+args(of.Arity, func() string { return d.typeExpr(2, variables) }))
	}
	var items []string
	for at, of := range d.types {
		if decls[at] == nil {
			decls[at] = []string{"only_" + of.Name}
		}
		head := of.Name + []string{"", "(T)", "(T, U)"}[of.Arity]
		items = append(items, "type "+head+" = "+strings.Join(decls[at], " | "))
	}
	for _, of := range d.preds {
		if names.Builtin(of) {
			of.Arity--
		}
		items = append(items, d.pred(of)...)
	}
	d.Shuffle(len(items), func(a, b int) { items[a], items[b] = items[b], items[a] })
	return items
}

// pred is the declaration of a predicate, with a mode or two, and some clauses.
func (d *dice) pred(of api.Key) []string {
	items := []string{"pred " + of.Name + args(of.Arity, func() string { return d.typeExpr(2, []string{"T", "_", "V"}) })}
	ways := d.Perm(1 << of.Arity)
	for _, bits := range ways[:min(1+d.Intn(2), len(ways))] {
		way := func() string { bits *= 2; return []string{"in", "out"}[bits>>of.Arity&1] }
		items = append(items, "mode "+of.Name+args(of.Arity, way)+" is "+one(d, []string{"det", "semidet", "multi", "nondet"}))
	}
	for range d.Intn(3) {
		head := of.Name + args(of.Arity, func() string { return d.term(2) })
		items = append(items, head+one(d, []string{"", " :- " + d.goal(2)}))
	}
	return items
}

// spoilt is the text of items with a small change: an item less, or twice, or a token of them less, twice, or another one.
func (d *dice) spoilt(items []string) string {
	at := d.Intn(len(items))
	switch d.Intn(6) {
	case 0:
		return strings.Join(slices.Concat(items[:at], items[at+1:]), ". ") + "."
	case 1:
		return strings.Join(append(items[:len(items):len(items)], items[at]), ". ") + "."
	}
	tokens, err := lex.Lex(strings.Join(items, ". ") + ".")
	if err != nil {
		return ""
	}
	at = d.Intn(len(tokens))
	tok := tokens[at]
	switch d.Intn(4) {
	case 0:
		return lex.Join(slices.Concat(tokens[:at], tokens[at+1:]))
	case 1:
		comma := api.Token{Kind: api.TokMark, Text: ","}
		return lex.Join(slices.Concat(tokens[:at], []api.Token{tok, comma}, tokens[at:]))
	}
	tokens[at].Text = one(d, strings.Fields("t u p q a b add lt in out T U _ 1 int"))
	if tok.Kind == api.TokName && !lex.Reserved(tok.Text) {
		tokens[at].Text = one(d, strings.Fields("t u p q a b add lt le c"))
	}
	return lex.Join(tokens)
}

// thrown calls what to do with many sources, most of which are parsed, and some well named.
func thrown(seed int64, count int, try func(d *dice, text string)) {
	d := &dice{Rand: rand.New(rand.NewSource(seed))}
	for range count {
		items := d.source()
		try(d, strings.Join(items, ". ")+".")
		try(d, d.spoilt(items))
	}
}

// P4.1: whether a source is well named, and its index, by the rules once more.
func TestRulesAgain(t *testing.T) {
	counts := map[string]int{}
	thrown(1, 5000, func(_ *dice, text string) {
		items, err := parse.Source(text)
		if err != nil {
			counts["not parsed"]++
			return
		}
		x, err := names.Resolve(items)
		if !wellNamed(items) {
			counts["not well named"]++
			if err != api.ErrNames || form(x) != form(api.Index{}) {
				t.Fatalf("%s\n%v, not ErrNames", print.Source(items), err)
			}
			return
		}
		counts["well named"]++
		if err != nil {
			t.Fatalf("%s\n%v", print.Source(items), err)
		}
		same(t, text, x, indexOf(items))
	})
	for _, what := range []string{"not well named", "well named"} {
		if counts[what] < 1000 {
			t.Error(counts)
		}
	}
}

// sorted is what is in an index, whatever the order: clauses are told by what they are.
func sorted(x api.Index, items []api.Item) []string {
	var parts []string
	for _, it := range x.Types {
		parts = append(parts, form(it))
	}
	for _, c := range x.Ctors {
		parts = append(parts, form(c))
	}
	for _, p := range x.Preds {
		head := form(p.Key) + form(p.Types)
		parts = append(parts, head)
		for _, m := range p.Modes {
			parts = append(parts, head+form(m))
		}
		for _, at := range p.Clauses {
			parts = append(parts, head+form(items[at]))
		}
	}
	sort.Strings(parts)
	return parts
}

// P4.2: in another order a source is as well named as before, and its index has the same parts.
func TestOrderOfItems(t *testing.T) {
	thrown(2, 700, func(d *dice, text string) {
		items, err := parse.Source(text)
		if err != nil {
			return
		}
		x, err := names.Resolve(items)
		for range 5 {
			other := slices.Clone(items)
			d.Shuffle(len(other), func(a, b int) { other[a], other[b] = other[b], other[a] })
			y, otherErr := names.Resolve(other)
			if err != otherErr {
				t.Fatalf("%s\n%v, but in the order\n%s\n%v", text, err, print.Source(other), otherErr)
			}
			same(t, text, sorted(y, other), sorted(x, items))
			if err == nil {
				same(t, text, y, indexOf(other))
			}
		}
	})
}

// P4.1: for each index the other functions find what is in it, and nothing else.
func TestLookupsAgain(t *testing.T) {
	thrown(3, 300, func(_ *dice, text string) {
		items, err := parse.Source(text)
		if err != nil || !wellNamed(items) {
			return
		}
		x := resolved(t, text)
		for _, name := range []string{"t", "u", "p", "q", "a", "b", "add", "lt", "int"} {
			for arity := range 5 {
				k := key(name, arity)
				c, ok := names.Ctor(x, k)
				same(t, text, ok, slices.ContainsFunc(x.Ctors, func(c api.Ctor) bool { return c.Key == k }))
				p, found := names.Pred(x, k)
				same(t, text, found, slices.ContainsFunc(x.Preds, func(p api.Pred) bool { return p.Key == k }))
				same(t, text, ok && c.Key != k || found && p.Key != k, false)
			}
			others := slices.DeleteFunc(slices.Clone(x.Ctors), func(c api.Ctor) bool { return c.Type != name })
			same(t, text, names.Ctors(x, name), others)
		}
		for _, c := range x.Ctors {
			got, _ := names.Ctor(x, c.Key)
			same(t, text, got, c)
		}
		for _, p := range x.Preds {
			got, _ := names.Pred(x, p.Key)
			same(t, text, got, p)
			for at, m := range p.Modes {
				same(t, text, names.Mode(p, m.In), at)
				same(t, text, names.Mode(api.Pred{Modes: p.Modes[:at]}, m.In), -1)
			}
		}
	})
}
