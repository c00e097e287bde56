package parse_test

import (
	"math/rand"
	"reflect"
	"strconv"
	"strings"
	"testing"

	"augur/api"
	"augur/parse"
)

// Sources of all forms, and their texts: what parse returns for such a text is the source it was made of.

var someNames = []string{"a", "b", "p9", "q_R", "types", "ints"}
var someVars = []string{"X", "Y", "_", "_1", "Zz"}

func one(dice *rand.Rand, list []string) string { return list[dice.Intn(len(list))] }

// few is up to most of what make makes; an empty list is nil.
func few[T any](dice *rand.Rand, most int, make func() T) []T {
	var list []T
	for range dice.Intn(most + 1) {
		list = append(list, make())
	}
	return list
}

func someTerm(dice *rand.Rand, depth int) api.Term {
	switch k := dice.Intn(5); {
	case k == 0:
		return v(one(dice, someVars))
	case k == 1:
		return n(dice.Intn(2001) - 1000)
	case depth == 0:
		return c(one(dice, someNames))
	}
	return c(one(dice, someNames), few(dice, 3, func() api.Term { return someTerm(dice, depth-1) })...)
}

func someType(dice *rand.Rand, depth int) api.TypeExpr {
	switch k := dice.Intn(5); {
	case k == 0:
		return tv(one(dice, someVars))
	case k == 1:
		return ty("int")
	case depth == 0:
		return ty(one(dice, someNames))
	}
	return ty(one(dice, someNames), few(dice, 3, func() api.TypeExpr { return someType(dice, depth-1) })...)
}

func someGoal(dice *rand.Rand, depth int) api.Goal {
	part := func() api.Goal { return someGoal(dice, depth-1) }
	term := func() api.Term { return someTerm(dice, 2) }
	k := dice.Intn(9)
	if depth == 0 {
		k = dice.Intn(5)
	}
	switch k {
	case 0:
		return yes()
	case 1:
		return no()
	case 2:
		return unify(term(), term())
	case 3:
		return throw(term())
	case 4:
		return call(one(dice, someNames), few(dice, 3, term)...)
	case 5:
		return not(part())
	case 6:
		return try(part(), one(dice, someVars), part())
	case 7:
		return and(append(few(dice, 2, part), part(), part())...)
	}
	return or(append(few(dice, 2, part), part(), part())...)
}

func someItems(dice *rand.Rand, count int) []api.Item {
	var items []api.Item
	types := func() []api.TypeExpr {
		return few(dice, api.MaxArity, func() api.TypeExpr { return someType(dice, 2) })
	}
	for range count {
		name := one(dice, someNames)
		switch dice.Intn(4) {
		case 0:
			maker := func() api.CtorDecl { return ctor(one(dice, someNames), types()...) }
			vars := few(dice, api.MaxArity, func() string { return one(dice, someVars) })
			items = append(items, typeItem(name, vars, append(few(dice, 3, maker), maker())...))
		case 1:
			items = append(items, pred(name, types()...))
		case 2:
			items = append(items, mode(name, 1+dice.Intn(4), few(dice, api.MaxArity, func() bool { return dice.Intn(2) == 0 })...))
		case 3:
			args := few(dice, api.MaxArity, func() api.Term { return someTerm(dice, 3) })
			items = append(items, clause(name, someGoal(dice, 4), args...))
		}
	}
	return items
}

// writer writes tokens, with what gap gives before each.
type writer struct {
	strings.Builder
	gap func() string
}

func (w *writer) put(tokens ...string) {
	for _, tok := range tokens {
		w.WriteString(w.gap())
		w.WriteString(tok)
	}
}

func blankGaps() string { return " " }

// row writes a list with a mark between each two.
func row[T any](w *writer, mark string, list []T, write func(T)) {
	for i, x := range list {
		if i > 0 {
			w.put(mark)
		}
		write(x)
	}
}

// args writes a list in parentheses, and nothing if it is empty.
func args[T any](w *writer, list []T, write func(T)) {
	if len(list) > 0 {
		w.put("(")
		row(w, ",", list, write)
		w.put(")")
	}
}

func (w *writer) term(t api.Term) {
	if t.Kind == api.TInt {
		w.put(strconv.Itoa(t.Int))
		return
	}
	w.put(t.Name)
	args(w, t.Args, w.term)
}

func (w *writer) typeExpr(t api.TypeExpr) {
	w.put(t.Name)
	args(w, t.Args, w.typeExpr)
}

// prim writes a goal where the grammar asks for a prim: GAnd and GOr in parentheses.
func (w *writer) prim(g api.Goal) {
	if g.Kind == api.GAnd || g.Kind == api.GOr {
		w.put("(")
		w.goal(g)
		w.put(")")
		return
	}
	w.goal(g)
}

// disjunct writes a part of a GOr: only another GOr is in parentheses.
func (w *writer) disjunct(g api.Goal) {
	if g.Kind == api.GOr {
		w.prim(g)
		return
	}
	w.goal(g)
}

func (w *writer) goal(g api.Goal) {
	switch g.Kind {
	case api.GTrue:
		w.put("true")
	case api.GFail:
		w.put("fail")
	case api.GUnify:
		w.term(g.A)
		w.put("=")
		w.term(g.B)
	case api.GCall:
		w.put(g.Name)
		args(w, g.Args, w.term)
	case api.GAnd:
		row(w, ",", g.Goals, w.prim)
	case api.GOr:
		row(w, ";", g.Goals, w.disjunct)
	case api.GNot:
		w.put("not")
		w.prim(g.Goals[0])
	case api.GThrow:
		w.put("throw")
		w.term(g.A)
	case api.GTry:
		w.put("try")
		w.prim(g.Goals[0])
		w.put("catch", g.Name, "then")
		w.prim(g.Goals[1])
	}
}

func (w *writer) item(it api.Item) {
	word := func(text string) { w.put(text) }
	switch it.Kind {
	case api.ItemType:
		w.put("type", it.Name)
		args(w, it.Vars, word)
		w.put("=")
		row(w, "|", it.Ctors, func(c api.CtorDecl) {
			w.put(c.Name)
			args(w, c.Args, w.typeExpr)
		})
	case api.ItemPred:
		w.put("pred", it.Name)
		args(w, it.Types, w.typeExpr)
	case api.ItemMode:
		w.put("mode", it.Name)
		args(w, it.In, func(in bool) { word(map[bool]string{true: "in", false: "out"}[in]) })
		w.put("is", []string{"det", "semidet", "multi", "nondet"}[it.Det-1])
	case api.ItemClause:
		w.put(it.Name)
		args(w, it.Args, w.term)
		if it.Body.Kind != api.GTrue {
			w.put(":-")
			w.goal(it.Body)
		}
	}
	w.put(".")
}

func formOf(items []api.Item, gap func() string) string {
	w := writer{gap: gap}
	for _, it := range items {
		w.item(it)
	}
	return w.String()
}

// someGaps are blanks and comments in any number, but at least one, so that no two tokens become one.
func someGaps(dice *rand.Rand) func() string {
	kinds := []string{" ", "\t", "\n", "\r", "%\n", "% p(X) :- q.\n", "% 05 ? \xff\n", "\r\n  ", " % % \r \n"}
	return func() string {
		text := one(dice, kinds)
		for range dice.Intn(3) {
			text += one(dice, kinds)
		}
		return text
	}
}

// P2.1 and P2.2: a source of each form is what its text is parsed to, whatever blanks and comments stand between.
func TestForms(t *testing.T) {
	dice := rand.New(rand.NewSource(2))
	for range 3000 {
		items := someItems(dice, dice.Intn(5))
		text := formOf(items, someGaps(dice))
		if len(text) <= api.MaxSource {
			gives(t, parse.Source, text, items, nil)
			gives(t, parse.Source, text+"% and the end.", items, nil)
		}
		gives(t, parse.Source, formOf(items, blankGaps), items, nil)
	}
}

// P2.2: between marks and other tokens nothing need stand, and with a gap in each place nothing changes, errors neither.
func TestGapsDoNotMatter(t *testing.T) {
	for _, text := range []string{
		"p(X,-5):-(q(X);not(X=f(Y))),throw(1).", "p(X,-5):-(q(X);not(X=f(Y))),r.type t(T)=a|b(int,T).pred p(int,t(T)).mode p(in,out)is nondet.p.",
		"p:-try(q,r)catch E then(s;t).", "p(X):-X.", "p(1,2,3,4,5,6,7,8,9).", "p(" + strings.Repeat("f(", api.MaxNest) + "a", "p", "type t=a|.",
	} {
		want, wantErr := parse.Source(text)
		for _, gap := range []string{" ", "\t", "\r\n", "\n", "% q.\n", "%\n%(\n"} {
			all := ""
			for _, part := range strings.Split(strings.NewReplacer(
				":-", "\x00:-\x00", "(", "\x00(\x00", ")", "\x00)\x00", ",", "\x00,\x00", ".", "\x00.\x00", ";", "\x00;\x00", "|", "\x00|\x00", "=", "\x00=\x00", " ", "\x00",
			).Replace(text), "\x00") {
				all += gap + part
			}
			gives(t, parse.Source, all, want, wantErr)
			gives(t, parse.Source, all+gap, want, wantErr)
		}
	}
	gives(t, parse.Term, " f %\n(\tX\r) % so", c("f", v("X")), nil)
	gives(t, parse.Type, "% so\nt ( T ) ", ty("t", tv("T")), nil)
	gives(t, parse.Goal, "\nnot%\nq\n;% so\nX=1", or(not(call("q")), unify(v("X"), n(1))), nil)
}

// spoil overwrites what a list has room for beyond its end, in all lists of a value: no other list may be changed by that.
func spoil(value reflect.Value, junk func(reflect.Value)) {
	switch value.Kind() {
	case reflect.Struct:
		for i := range value.NumField() {
			spoil(value.Field(i), junk)
		}
	case reflect.Slice:
		for i := range value.Len() {
			spoil(value.Index(i), junk)
		}
		room := value.Slice(0, value.Cap())
		for i := value.Len(); i < room.Len(); i++ {
			junk(room.Index(i))
		}
	}
}

// P2.1: a result is new memory, its lists share none, and no result hangs on an earlier call.
func TestResultsAreNew(t *testing.T) {
	dice := rand.New(rand.NewSource(3))
	junk := func(v reflect.Value) {
		if v.Kind() == reflect.Struct {
			v.FieldByName("Name").SetString("junk")
		}
	}
	for range 300 {
		text := formOf(someItems(dice, 4), blankGaps)
		first, err := parse.Source(text)
		if err != nil {
			t.Fatal(err)
		}
		spoil(reflect.ValueOf(first), junk)
		gives(t, parse.Source, text, first, nil)
		for i := range first {
			first[i] = api.Item{}
		}
		again, err := parse.Source(text)
		if err != nil || reflect.DeepEqual(again, first) {
			t.Fatalf("%s: changed by an earlier result", short(text))
		}
	}
}
