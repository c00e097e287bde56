package types_test

import (
	"fmt"
	"slices"
	"strings"
	"testing"

	"augur/api"
	"augur/flat"
	"augur/types"
	"augur/unify"
)

// The document once more, in another form: a type is a list of words, each ahead of those of its arguments; all that is to
// be unified is written down as pairs first, and then they are gone through, where what the unknowns come to is kept resolved.

// words is a type: "int", "'T" (rigid), "?3" (an unknown), "list/1" (data).
type words []string

// pair is two types to be unified.
type pair struct{ a, b words }

// asks writes down what a body asks for.
type asks struct {
	x        api.Index
	unknowns int
	pairs    []pair
}

func (w *asks) fresh() words {
	w.unknowns++
	return words{fmt.Sprint("?", w.unknowns-1)}
}

func word(v int) words { return words{fmt.Sprint("?", v)} }

// instance is a declared type with types for its variables; those for which there is none are rigid.
func instance(e api.TypeExpr, of map[string]words) words {
	switch {
	case e.Var && of == nil:
		return words{"'" + e.Name}
	case e.Var:
		return of[e.Name]
	case e.Name == "int":
		return words{"int"}
	}
	made := words{fmt.Sprint(e.Name, "/", len(e.Args))}
	for _, arg := range e.Args {
		made = append(made, instance(arg, of)...)
	}
	return made
}

// variables adds an unknown for each variable of a type that has none.
func (w *asks) variables(e api.TypeExpr, of map[string]words) {
	if e.Var && of[e.Name] == nil {
		of[e.Name] = w.fresh()
	}
	for _, arg := range e.Args {
		w.variables(arg, of)
	}
}

func (w *asks) pred(k api.Key) api.Pred {
	return w.x.Preds[slices.IndexFunc(w.x.Preds, func(p api.Pred) bool { return p.Key == k })]
}

func (w *asks) ctor(k api.Key) api.Ctor {
	return w.x.Ctors[slices.IndexFunc(w.x.Ctors, func(c api.Ctor) bool { return c.Key == k })]
}

func (w *asks) ask(v int, a words) { w.pairs = append(w.pairs, pair{word(v), a}) }

func (w *asks) goal(f api.Flat) {
	goals := f.Goals
	of := map[string]words{}
	var declared []api.TypeExpr
	switch f.Kind {
	case api.FSame:
		w.ask(f.X, word(f.Y))
	case api.FInt, api.FThrow:
		w.ask(f.X, words{"int"})
	case api.FTry:
		w.goal(goals[0])
		w.ask(f.X, words{"int"})
		goals = goals[1:]
	case api.FCtor:
		c := w.ctor(f.Ctor)
		own := api.TypeExpr{Name: c.Type}
		for _, name := range c.Vars {
			own.Args = append(own.Args, api.TypeExpr{Var: true, Name: name})
		}
		w.variables(own, of)
		w.ask(f.X, instance(own, of))
		declared = c.Args
	case api.FCall:
		declared = w.pred(f.Pred).Types
		for _, e := range declared {
			w.variables(e, of)
		}
	}
	for i, e := range declared {
		w.ask(f.Args[i], instance(e, of))
	}
	for _, g := range goals {
		w.goal(g)
	}
}

// arity is how many arguments a word has.
func arity(word string) int {
	n := 0
	if _, args, ok := strings.Cut(word, "/"); ok {
		fmt.Sscan(args, &n)
	}
	return n
}

// part is the type in words that begins at a place.
func (w words) part(at int) words {
	end := at
	for open := 1; open > 0; end++ {
		open += arity(w[end]) - 1
	}
	return w[at:end]
}

// with is words with others in place of some.
func (w words) with(of map[string]words) words {
	var made words
	for _, x := range w {
		if other, ok := of[x]; ok {
			made = append(made, other...)
		} else {
			made = append(made, x)
		}
	}
	return made
}

// settled is what unknowns come to.
type settled map[string]words

// settle makes two types equal.
func (s settled) settle(p pair) error {
	if len(p.b) > 200 {
		return api.ErrLarge
	}
	for {
		a, b := p.a.with(s), p.b.with(s)
		at := 0
		for at < len(a) && at < len(b) && a[at] == b[at] {
			at++
		}
		if at == len(a) && at == len(b) {
			return nil
		}
		v, other := a[at], b.part(at)
		if v[0] != '?' {
			v, other = b[at], a.part(at)
		}
		if v[0] != '?' || slices.Contains(other, v) {
			return api.ErrTypes
		}
		for name, had := range s {
			s[name] = had.with(settled{v: other})
			if len(s[name]) > 200 {
				return api.ErrLarge
			}
		}
	}
}

// text is a type as text.
func (w words) text() string {
	name, _, _ := strings.Cut(w[0], "/")
	name = strings.TrimPrefix(name, "'")
	var args []string
	for at := 1; at < len(w); at += len(w.part(at)) {
		args = append(args, w.part(at).text())
	}
	if len(args) == 0 {
		return name
	}
	return name + "(" + strings.Join(args, ", ") + ")"
}

// again is the texts of a body's types, or its error.
func again(x api.Index, b api.Body) ([]string, error) {
	w := asks{x: x, unknowns: b.Vars}
	for v, e := range w.pred(b.Pred).Types {
		w.ask(v, instance(e, nil))
	}
	w.goal(b.Goal)
	s := settled{}
	for v := range w.unknowns {
		s[word(v)[0]] = word(v)
	}
	for _, p := range w.pairs {
		if err := s.settle(p); err != nil {
			return nil, err
		}
	}
	names := map[string]words{}
	var list []string
	for v := range b.Vars {
		for _, x := range s[word(v)[0]] {
			if _, ok := names[x]; !ok && x[0] == '?' {
				names[x] = word(len(names))
			}
		}
		list = append(list, s[word(v)[0]].with(names).text())
	}
	return list, nil
}

// exact are types as texts.
func exact(list []api.Type) []string {
	var made []string
	for _, a := range list {
		made = append(made, unify.Text(a))
	}
	return made
}

// P7.1: types by the document once more, also with goals in another order and clauses left out.
func TestTypesAgain(t *testing.T) {
	counts := map[error]int{}
	thrown(t, 1, 1500, func(d dice, text string, items []api.Item, x api.Index) {
		var first error
		for _, p := range x.Preds[7:] {
			b, err := flat.Flatten(items, x, p.Key)
			if err != nil {
				t.Fatalf("%s: %v", text, err)
			}
			for round := range 3 {
				want, wantErr := again(x, b)
				list, err := types.Infer(x, b)
				what := fmt.Sprint(text, " ", p.Key, " ", round)
				held(t, what, err, wantErr)
				held(t, what, exact(list), want)
				counts[wantErr]++
				if round == 0 && first == nil {
					first = wantErr
				}
				b.Goal = d.mixed(b.Goal)
			}
		}
		held(t, text, types.Check(items, x), first)
	})
	if counts[nil] < 8000 || counts[api.ErrTypes] < 1500 || counts[api.ErrLarge] < 150 {
		t.Error(counts)
	}
}

// P7.1: where nothing is wrong, the order of the goals doesn't matter.
func TestOrderDoesntMatter(t *testing.T) {
	same := 0
	thrown(t, 2, 600, func(d dice, text string, items []api.Item, x api.Index) {
		for _, p := range x.Preds[7:] {
			b, _ := flat.Flatten(items, x, p.Key)
			list, err := types.Infer(x, b)
			b.Goal = d.shuffled(b.Goal)
			other, otherErr := types.Infer(x, b)
			if err == nil {
				held(t, text, otherErr, nil)
				held(t, text, exact(other), exact(list))
				same++
			} else if otherErr == nil {
				t.Errorf("%s: %v, but not with its goals in another order", text, err)
			}
		}
	})
	if same < 1000 {
		t.Error(same)
	}
}

// P7: names of variables don't matter, nor does the rest of the source.
func TestNamesDontMatter(t *testing.T) {
	thrown(t, 3, 300, func(d dice, text string, items []api.Item, x api.Index) {
		other := "type other(A) = other(A) | none. pred other(other(int)). mode other(in) is det. other(X) :- X = 1.\n" + strings.ReplaceAll(text, "V", "Name_")
		otherItems, otherX := read(t, other)
		for _, p := range x.Preds[7:] {
			b, _ := flat.Flatten(items, x, p.Key)
			list, err := types.Infer(x, b)
			otherB, _ := flat.Flatten(otherItems, otherX, p.Key)
			otherList, otherErr := types.Infer(otherX, otherB)
			held(t, other, otherErr, err)
			held(t, other, exact(otherList), exact(list))
		}
	})
}

// P7: the names of a predicate's type variables are those of its rigid types, and nothing else.
func TestNamesOfTypeVariables(t *testing.T) {
	rename := strings.NewReplacer("A", "T1", "B", "A")
	thrown(t, 4, 300, func(d dice, text string, items []api.Item, x api.Index) {
		_, declarations, _ := strings.Cut(text, "\n")
		otherItems, otherX := read(t, prelude+"\n"+rename.Replace(declarations))
		for _, p := range x.Preds[7:] {
			b, _ := flat.Flatten(items, x, p.Key)
			list, err := types.Infer(x, b)
			otherB, _ := flat.Flatten(otherItems, otherX, p.Key)
			otherList, otherErr := types.Infer(otherX, otherB)
			held(t, text, otherErr, err)
			held(t, text, exact(otherList), strings.Split(rename.Replace(strings.Join(exact(list), ";")), ";"))
		}
	})
}
