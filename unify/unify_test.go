package unify_test

import (
	"fmt"
	"math"
	"slices"
	"strconv"
	"strings"
	"testing"

	"augur/api"
	"augur/unify"
)

func integer() api.Type          { return api.Type{Kind: api.TyInt} }
func rigid(name string) api.Type { return api.Type{Kind: api.TyRigid, Name: name} }
func free(v int) api.Type        { return api.Type{Kind: api.TyFree, Var: v} }
func data(name string, args ...api.Type) api.Type {
	return api.Type{Kind: api.TyData, Name: name, Args: args}
}

// form tells what is in a value, where nil and empty lists are the same.
func form(value any) string { return fmt.Sprintf("%+v", value) }

// held holds what was answered against what should be.
func held(t *testing.T, what string, got, want any) {
	t.Helper()
	if form(got) != form(want) {
		t.Errorf("%.300s: %.1000s, not %.1000s", what, form(got), form(want))
	}
}

// typ reads a type: "int", "T" (rigid), "?0" (an unknown), "f(int, T)" (data), "150" (a type of that many nodes, without unknowns).
func typ(text string) api.Type {
	a, rest := typeOf(strings.ReplaceAll(text, " ", ""))
	if rest != "" {
		panic("no type: " + text)
	}
	return a
}

// typeOf is the type at a text's beginning, and the text behind it.
func typeOf(text string) (api.Type, string) {
	end := strings.IndexAny(text+")", "(,)")
	word, rest := text[:end], text[end:]
	if count, err := strconv.Atoi(word); err == nil {
		return tower(count, integer()), rest
	}
	switch {
	case word == "int":
		return integer(), rest
	case word[0] == '?':
		v, _ := strconv.Atoi(word[1:])
		return free(v), rest
	case word[0] >= 'A' && word[0] <= 'Z':
		return rigid(word), rest
	}
	made := data(word)
	if !strings.HasPrefix(rest, "(") {
		return made, rest
	}
	for rest[0] != ')' {
		var arg api.Type
		arg, rest = typeOf(rest[1:])
		made.Args = append(made.Args, arg)
	}
	return made, rest[1:]
}

// tower is a type around another one, that makes count nodes of one.
func tower(count int, a api.Type) api.Type {
	for range count - 1 {
		a = data("s", a)
	}
	return a
}

// table is a table with so many unknowns.
func table(unknowns int) *unify.Table {
	u := unify.New()
	for range unknowns {
		u.Fresh()
	}
	return u
}

// unified is what unifying two types must answer.
type unified struct {
	a, b string
	err  error
}

// steps are types that are unified one after the other, and what the unknowns are resolved to then.
type steps struct {
	unknowns int
	list     []unified
	resolved string
}

// hold asks for the answers of each row.
func hold(t *testing.T, rows ...steps) {
	t.Helper()
	for _, r := range rows {
		u := table(r.unknowns)
		for _, s := range r.list {
			held(t, form(r.list)+" "+s.a+" = "+s.b, u.Unify(typ(s.a), typ(s.b)), s.err)
		}
		held(t, form(r.list), all(t, u), r.resolved)
		held(t, form(r.list), u.Len(), r.unknowns)
	}
}

// all tells what the unknowns of a table are resolved to; a type of many nodes by their number, with a "?" for each unknown in it.
func all(t *testing.T, u *unify.Table) string {
	t.Helper()
	var list []string
	for v := range u.Len() {
		a, err := u.Resolve(free(v))
		if err != nil {
			t.Errorf("?%d isn't resolved: %v", v, err)
		}
		text := unify.Text(a)
		if nodes := count(a); nodes >= 20 {
			text = fmt.Sprint(nodes) + strings.Repeat("?", strings.Count(text, "?"))
		}
		list = append(list, text)
	}
	return strings.Join(list, " ")
}

// count is how many nodes a type has.
func count(a api.Type) int {
	sum := 1
	for _, arg := range a.Args {
		sum += count(arg)
	}
	return sum
}

// P6.1: the document's examples.
func TestExamples(t *testing.T) {
	hold(t,
		steps{2, []unified{{"list(?0)", "list(int)", nil}, {"?1", "list(?1)", api.ErrTypes}}, "int ?1"},
		steps{0, []unified{{"T", "int", api.ErrTypes}}, ""},
	)
}

// P6.1: unknowns are numbered from 0, each table's apart.
func TestFresh(t *testing.T) {
	u, other := unify.New(), unify.New()
	held(t, "no unknowns", u.Len(), 0)
	for v := range 300 {
		held(t, "fresh", u.Fresh(), free(v))
		held(t, "count", u.Len(), v+1)
	}
	held(t, "other", other.Fresh(), free(0))
	held(t, "other count", other.Len(), 1)
	_ = u.Unify(free(0), integer())
	_ = u.Unify(free(300), integer())
	held(t, "count after unifying", u.Len(), 300)
	held(t, "fresh after unifying", u.Fresh(), free(300))
	held(t, "fresh isn't bound", all(t, other), "?0")
}

// P6.1: what are the same types, and what aren't.
func TestUnifyWithoutUnknowns(t *testing.T) {
	list := []string{"int", "T", "U", "t", "u", "f(int)", "f(T)", "f(t)", "g(int)", "f(int, int)", "f(int, T)", "f(T, int)", "f(f(int), int)", "f(f(int, int))", "f(g(int, T, t))", "f(g(int, T, u))", "200"}
	for i, a := range list {
		for j, b := range list {
			var want error
			if i != j {
				want = api.ErrTypes
			}
			held(t, a+" = "+b, table(0).Unify(typ(a), typ(b)), want)
		}
	}
	// Names that a source can't have, but a type can.
	for _, pair := range [][2]api.Type{{integer(), data("int")}, {rigid("t"), data("t")}, {rigid("T"), data("T")}, {rigid("int"), integer()}, {rigid(""), data("")}, {rigid(""), integer()}} {
		held(t, form(pair), table(0).Unify(pair[0], pair[1]), api.ErrTypes)
		held(t, form(pair), table(0).Unify(pair[1], pair[0]), api.ErrTypes)
		held(t, form(pair), table(0).Unify(pair[0], pair[0]), nil)
		held(t, form(pair), table(0).Unify(pair[1], pair[1]), nil)
	}
}

// P6.1: unknowns are bound, the first one to the second if both are unknowns.
func TestBind(t *testing.T) {
	hold(t,
		steps{1, []unified{{"?0", "int", nil}}, "int"},
		steps{1, []unified{{"int", "?0", nil}}, "int"},
		steps{1, []unified{{"?0", "T", nil}}, "T"},
		steps{1, []unified{{"t", "?0", nil}}, "t"},
		steps{1, []unified{{"?0", "?0", nil}}, "?0"},
		steps{1, []unified{{"f(?0)", "f(?0)", nil}}, "?0"},
		steps{2, []unified{{"?0", "?1", nil}}, "?1 ?1"},
		steps{2, []unified{{"?1", "?0", nil}}, "?0 ?0"},
		steps{2, []unified{{"?0", "?1", nil}, {"?0", "?1", nil}, {"?1", "?0", nil}, {"?0", "?0", nil}}, "?1 ?1"},
		steps{2, []unified{{"f(?0, ?1)", "f(?1, ?0)", nil}}, "?1 ?1"},
		steps{2, []unified{{"?0", "f(?1)", nil}}, "f(?1) ?1"},
		steps{2, []unified{{"f(?1)", "?0", nil}}, "f(?1) ?1"},
		steps{2, []unified{{"?0", "f(?1)", nil}, {"?1", "int", nil}}, "f(int) int"},
		steps{2, []unified{{"?1", "int", nil}, {"?0", "f(?1)", nil}}, "f(int) int"},
		steps{2, []unified{{"f(?0, t)", "f(g(?1), ?1)", nil}}, "g(t) t"},
		steps{3, []unified{{"f(?0, ?0)", "f(?1, ?2)", nil}}, "?2 ?2 ?2"},
		steps{3, []unified{{"f(?1, ?2)", "f(?0, ?0)", nil}}, "?0 ?0 ?0"},
	)
}

// P6.1: a bound unknown is replaced, as often as it takes.
func TestBoundUnknowns(t *testing.T) {
	hold(t,
		steps{1, []unified{{"?0", "int", nil}, {"?0", "int", nil}, {"int", "?0", nil}}, "int"},
		steps{1, []unified{{"?0", "int", nil}, {"?0", "T", api.ErrTypes}, {"T", "?0", api.ErrTypes}}, "int"},
		steps{1, []unified{{"?0", "t", nil}, {"f(?0)", "f(t)", nil}, {"f(u)", "f(?0)", api.ErrTypes}}, "t"},
		steps{3, []unified{{"?0", "?1", nil}, {"?1", "?2", nil}}, "?2 ?2 ?2"},
		steps{3, []unified{{"?1", "?2", nil}, {"?0", "?1", nil}}, "?2 ?2 ?2"},
		steps{3, []unified{{"?0", "?1", nil}, {"?0", "?2", nil}}, "?2 ?2 ?2"},
		steps{3, []unified{{"?0", "?1", nil}, {"?2", "?0", nil}}, "?1 ?1 ?1"},
		steps{3, []unified{{"?0", "?1", nil}, {"?2", "?1", nil}, {"?2", "?0", nil}, {"?0", "?2", nil}}, "?1 ?1 ?1"},
		steps{4, []unified{{"?0", "?1", nil}, {"?2", "?3", nil}, {"?0", "?2", nil}}, "?3 ?3 ?3 ?3"},
		steps{4, []unified{{"?0", "?1", nil}, {"?2", "?3", nil}, {"?2", "?0", nil}}, "?1 ?1 ?1 ?1"},
		steps{4, []unified{{"?0", "?1", nil}, {"?1", "?2", nil}, {"?2", "?3", nil}, {"?0", "int", nil}}, "int int int int"},
		steps{4, []unified{{"?0", "?1", nil}, {"?1", "?2", nil}, {"?2", "int", nil}, {"?3", "?0", nil}}, "int int int int"},
		steps{4, []unified{{"?0", "?1", nil}, {"?2", "?3", nil}, {"?1", "f(?2)", nil}, {"f(?3)", "?0", nil}}, "f(?3) f(?3) ?3 ?3"},
		steps{4, []unified{{"?0", "f(?2)", nil}, {"?1", "f(?3)", nil}, {"?0", "?1", nil}}, "f(?3) f(?3) ?3 ?3"},
		steps{4, []unified{{"?0", "f(?2)", nil}, {"?1", "f(?3)", nil}, {"?1", "?0", nil}}, "f(?2) f(?2) ?2 ?2"},
		steps{3, []unified{{"?0", "f(?1)", nil}, {"?0", "f(g(?2))", nil}, {"?0", "f(g(int))", nil}}, "f(g(int)) g(int) int"},
		steps{2, []unified{{"?0", "f(?1)", nil}, {"?0", "f(int, int)", api.ErrTypes}, {"?0", "g(int)", api.ErrTypes}, {"?0", "T", api.ErrTypes}}, "f(?1) ?1"},
	)
}

// P6.1: arguments are unified from the left; what is bound ahead of an error remains bound, and nothing is bound behind it.
func TestUpToTheFirstError(t *testing.T) {
	hold(t,
		steps{2, []unified{{"f(?0, int, ?1)", "f(int, T, int)", api.ErrTypes}}, "int ?1"},
		steps{2, []unified{{"f(int, T, ?1)", "f(?0, int, int)", api.ErrTypes}}, "int ?1"},
		steps{1, []unified{{"f(?0, ?0)", "f(int, T)", api.ErrTypes}}, "int"},
		steps{1, []unified{{"f(?0, ?0)", "f(T, int)", api.ErrTypes}}, "T"},
		steps{2, []unified{{"f(g(?0, t), ?1)", "f(g(int, u), int)", api.ErrTypes}}, "int ?1"},
		steps{2, []unified{{"f(g(?0), h(?1))", "f(g(int), g(int))", api.ErrTypes}}, "int ?1"},
		steps{2, []unified{{"f(g(?0), g(?1))", "f(g(int), g(int, int))", api.ErrTypes}}, "int ?1"},
		steps{2, []unified{{"f(?0)", "g(int)", api.ErrTypes}, {"f(?0)", "f(int, int)", api.ErrTypes}, {"f(?0, ?1)", "f(int)", api.ErrTypes}}, "?0 ?1"},
		steps{3, []unified{{"f(?0, ?1, ?2)", "f(int, g(?1), int)", api.ErrTypes}}, "int ?1 ?2"},
		steps{3, []unified{{"f(?0, ?1, ?2)", "f(100, g(?0, ?0), int)", api.ErrLarge}}, "100 ?1 ?2"},
		steps{1, []unified{{"f(?0)", "f(int)", nil}, {"?0", "T", api.ErrTypes}, {"?0", "int", nil}}, "int"},
		steps{3, []unified{{"f(?0, int)", "f(?1, T)", api.ErrTypes}, {"?1", "t", nil}, {"f(?2, ?2)", "f(?0, u)", api.ErrTypes}}, "t t t"},
	)
}

// P6.1: an unknown isn't bound to a type in which it occurs.
func TestOccurs(t *testing.T) {
	hold(t,
		steps{1, []unified{{"?0", "f(?0)", api.ErrTypes}, {"f(?0)", "?0", api.ErrTypes}, {"?0", "f(int, g(T, ?0))", api.ErrTypes}}, "?0"},
		steps{2, []unified{{"?0", "f(?1)", nil}, {"?1", "?0", api.ErrTypes}, {"?0", "?1", api.ErrTypes}, {"?1", "f(?1)", api.ErrTypes}}, "f(?1) ?1"},
		steps{2, []unified{{"?0", "f(?1)", nil}, {"?1", "g(int, ?0)", api.ErrTypes}, {"?1", "f(t)", nil}}, "f(f(t)) f(t)"},
		steps{2, []unified{{"f(?0, ?1)", "f(g(?1), g(?0))", api.ErrTypes}}, "g(?1) ?1"},
		steps{2, []unified{{"?0", "?1", nil}, {"?1", "f(?0)", api.ErrTypes}, {"?0", "f(?1)", api.ErrTypes}, {"f(?1)", "?0", api.ErrTypes}}, "?1 ?1"},
		steps{4, []unified{{"?0", "f(?1)", nil}, {"?1", "?2", nil}, {"?2", "f(?3)", nil}, {"?3", "f(?0)", api.ErrTypes}, {"?3", "f(?1)", api.ErrTypes}, {"?3", "?2", api.ErrTypes}}, "f(f(?3)) f(?3) f(?3) ?3"},
		steps{2, []unified{{"?0", "f(?1, ?1)", nil}, {"?0", "f(int, ?0)", api.ErrTypes}}, "f(int, int) int"},
		// It occurs also in types that are too large.
		steps{2, []unified{{"?0", "150", nil}, {"?1", "f(?0, ?0, ?1)", api.ErrTypes}, {"f(?1, ?0, ?0)", "?1", api.ErrTypes}}, "150 ?1"},
	)
}

// P6.1: no unknown comes to more than MaxNodes nodes.
func TestNodesOfBound(t *testing.T) {
	held(t, "MaxNodes", unify.MaxNodes, 200)
	hold(t,
		steps{1, []unified{{"?0", "200", nil}}, "200"},
		steps{1, []unified{{"?0", "201", api.ErrLarge}}, "?0"},
		// The unknown itself.
		steps{2, []unified{{"?0", "100", nil}, {"?1", "f(?0, ?0)", api.ErrLarge}, {"f(?0, ?0)", "?1", api.ErrLarge}, {"?1", "f(?0, 99)", nil}}, "100 200"},
		steps{2, []unified{{"?0", "199", nil}, {"?1", "f(g(?0))", api.ErrLarge}, {"?1", "f(?0)", nil}}, "199 200"},
		steps{2, []unified{{"?0", "99", nil}, {"?1", "g(f(?0, ?0), int)", api.ErrLarge}, {"?1", "g(f(?0, ?0))", nil}}, "99 200"},
		// An unknown that is bound to it.
		steps{2, []unified{{"?1", "f(?0, ?0)", nil}, {"?0", "100", api.ErrLarge}, {"99", "?0", nil}}, "99 199"},
		steps{2, []unified{{"?1", "f(?0, g(?0))", nil}, {"100", "?0", api.ErrLarge}, {"?0", "99", nil}}, "99 200"},
		steps{2, []unified{{"?1", "f(?0)", nil}, {"?0", "200", api.ErrLarge}, {"?0", "199", nil}}, "199 200"},
		// One that is bound to that, and others beside it.
		steps{3, []unified{{"?1", "f(?0)", nil}, {"?2", "f(?1)", nil}, {"?0", "199", api.ErrLarge}, {"?0", "198", nil}}, "198 199 200"},
		steps{3, []unified{{"?2", "f(?1)", nil}, {"?1", "f(?0)", nil}, {"?0", "199", api.ErrLarge}, {"?0", "198", nil}}, "198 199 200"},
		steps{4, []unified{{"?3", "f(?1)", nil}, {"?2", "f(?1, ?1)", nil}, {"?1", "f(?0)", nil}, {"?0", "99", api.ErrLarge}, {"?0", "98", nil}}, "98 99 199 100"},
		steps{4, []unified{{"?1", "?0", nil}, {"?2", "?1", nil}, {"?3", "f(?2)", nil}, {"?1", "200", api.ErrLarge}, {"?2", "199", nil}}, "199 199 199 200"},
		steps{4, []unified{{"?3", "f(?2)", nil}, {"?2", "?1", nil}, {"?1", "?0", nil}, {"?3", "f(200)", api.ErrLarge}, {"?3", "f(199)", nil}}, "199 199 199 200"},
		// Half of it by one unknown, half by another.
		steps{3, []unified{{"?2", "f(?0, ?1)", nil}, {"?0", "100", nil}, {"?1", "100", api.ErrLarge}, {"?1", "?0", api.ErrLarge}, {"?1", "99", nil}}, "100 99 200"},
		steps{3, []unified{{"?2", "f(?0, ?1)", nil}, {"?0", "?1", nil}, {"?1", "100", api.ErrLarge}, {"?0", "99", nil}}, "99 99 199"},
		steps{3, []unified{{"?2", "f(?0, s(?1))", nil}, {"f(?0, ?1)", "f(100, 99)", api.ErrLarge}, {"f(?0, ?1)", "f(100, 98)", nil}}, "100 98 200"},
		steps{3, []unified{{"?2", "f(?0, s(?1))", nil}, {"f(?0, ?1)", "f(100, 99)", api.ErrLarge}}, "100 ?1 103?"},
	)
}

// P6.1: at MaxNodes nodes an unknown is still bound to what doesn't make them more.
func TestNodesThatStay(t *testing.T) {
	for _, to := range []string{"int", "T", "t", "?2"} {
		u := table(3)
		full := data("f", free(0), typ("198"))
		held(t, "full", u.Unify(free(1), full), nil)
		held(t, "fuller", u.Unify(free(0), typ("s(int)")), api.ErrLarge)
		held(t, to, u.Unify(free(0), typ(to)), nil)
		got, err := u.Resolve(free(1))
		held(t, to, err, nil)
		held(t, to, got, data("f", typ(to), typ("198")))
		held(t, "to itself", u.Unify(free(1), full), nil)
	}
	// No unknown is bound here, so none comes to more, although the types do.
	u := table(2)
	held(t, "150", u.Unify(free(0), typ("150")), nil)
	held(t, "twice itself", u.Unify(typ("f(?0, ?0, ?1)"), typ("f(?0, ?0, ?1)")), nil)
	held(t, "150 and 150", u.Unify(typ("f(?0, 150)"), typ("f(150, ?0)")), nil)
	held(t, "int behind 300", u.Unify(typ("f(?0, ?0, ?1)"), typ("f(?0, ?0, int)")), nil)
	held(t, "all", all(t, u), "150 int")
}

// P6.1: types that are handed in.
func TestHandedIn(t *testing.T) {
	wide := data("w", slices.Repeat([]api.Type{integer()}, 200)...)
	strange := []api.Type{{}, {Kind: 5}, {Kind: -1}, {Kind: math.MaxInt}, {Kind: 5, Name: "t", Args: []api.Type{integer()}}, free(2), free(-1), free(math.MaxInt), free(math.MinInt)}
	for _, a := range slices.Clone(strange) {
		strange = append(strange, data("f", a), data("f", integer(), data("g", free(0), a)), data("w", wide, a), data("w", a, wide))
	}
	for _, a := range strange {
		u := table(2)
		for _, b := range []api.Type{integer(), free(0), data("f", free(0), free(1)), wide, a} {
			held(t, form(a), u.Unify(a, b), api.ErrState)
			held(t, form(a), u.Unify(b, a), api.ErrState)
			held(t, form(a), u.Unify(data("f", free(0), a), data("f", integer(), b)), api.ErrState)
		}
		got, err := u.Resolve(a)
		held(t, form(a), err, api.ErrState)
		held(t, form(a), got, api.Type{})
		held(t, form(a), all(t, u), "?0 ?1")
	}
	for _, large := range []api.Type{wide, typ("201"), data("f", typ("100"), typ("100")), data("f", free(0), wide)} {
		u := table(2)
		for _, b := range []api.Type{integer(), free(0), large, data("w", large)} {
			held(t, "large", u.Unify(large, b), api.ErrLarge)
			held(t, "large", u.Unify(b, large), api.ErrLarge)
		}
		got, err := u.Resolve(large)
		held(t, "large", err, api.ErrLarge)
		held(t, "large", got, api.Type{})
		held(t, "large", all(t, u), "?0 ?1")
	}
}

// P6.1: the errors of what is handed in come ahead of those of the unification, and hang on nothing that is bound.
func TestOrderOfErrors(t *testing.T) {
	hold(t,
		steps{1, []unified{{"f(?0, int, ?9)", "f(int, T, int)", api.ErrState}}, "?0"},
		steps{1, []unified{{"f(?0, int)", "f(int, 200)", api.ErrLarge}}, "?0"},
		steps{1, []unified{{"T", "201", api.ErrLarge}, {"201", "f(?1)", api.ErrState}, {"f(?1)", "201", api.ErrState}, {"?0", "f(?0, 200)", api.ErrLarge}}, "?0"},
		steps{2, []unified{{"?0", "200", nil}, {"f(?0, ?1)", "f(?0, ?1)", nil}, {"f(?0, int)", "f(?0, T)", api.ErrTypes}}, "200 ?1"},
		steps{2, []unified{{"?0", "f(?1, ?1)", nil}, {"?1", "g(?0, 198)", api.ErrTypes}, {"?1", "g(?0, 199)", api.ErrLarge}, {"?1", "199", api.ErrLarge}}, "f(?1, ?1) ?1"},
	)
}

// P6.1: an unknown of a later Fresh is none yet.
func TestLaterUnknowns(t *testing.T) {
	u := table(1)
	held(t, "none yet", u.Unify(free(0), free(1)), api.ErrState)
	u.Fresh()
	held(t, "one now", u.Unify(free(0), free(1)), nil)
	held(t, "all", all(t, u), "?1 ?1")
}

// P6.1: a type resolved.
func TestResolve(t *testing.T) {
	for _, r := range []struct {
		a, resolved string
		err         error
	}{
		{"int", "int", nil},
		{"T", "T", nil},
		{"t", "t", nil},
		{"?0", "int", nil},
		{"?1", "?2", nil},
		{"?2", "?2", nil},
		{"?3", "f(?2, int)", nil},
		{"f(?3, g(?1), ?0, T)", "f(f(?2, int), g(?2), int, T)", nil},
		{"f(?4, 99)", "f(100, 99)", nil},
		{"f(?4, ?4)", "", api.ErrLarge},
		{"f(?4, s(?5))", "", api.ErrLarge},
		{"f(?5, ?4)", "f(99, 100)", nil},
		{"200", "200", nil},
		{"201", "", api.ErrLarge},
		{"?6", "", api.ErrState},
		{"f(?4, ?4, ?6)", "", api.ErrState},
	} {
		u := table(6)
		for _, pair := range [][2]string{{"?0", "int"}, {"?1", "?2"}, {"?3", "f(?1, ?0)"}, {"?4", "100"}, {"?5", "99"}} {
			held(t, form(pair), u.Unify(typ(pair[0]), typ(pair[1])), nil)
		}
		want := api.Type{}
		if r.err == nil {
			want = typ(r.resolved)
		}
		for range 2 {
			got, err := u.Resolve(typ(r.a))
			held(t, r.a, err, r.err)
			held(t, r.a, got, want)
		}
	}
}

// P6.1: Unify and Resolve ignore fields that don't belong to a type's Kind, and Resolve's answer has none.
func TestOtherFields(t *testing.T) {
	junk := []api.Type{{Kind: 77, Name: "junk"}, free(99), data("w", slices.Repeat([]api.Type{integer()}, 300)...)}
	types := []struct{ junk, plain api.Type }{
		{api.Type{Kind: api.TyInt, Name: "t", Var: 9, Args: junk}, integer()},
		{api.Type{Kind: api.TyRigid, Name: "T", Var: 9, Args: junk}, rigid("T")},
		{api.Type{Kind: api.TyFree, Name: "t", Var: 1, Args: junk}, free(1)},
		{api.Type{Kind: api.TyData, Name: "t", Var: 9}, data("t")},
	}
	for _, r := range slices.Clone(types) {
		types = append(types, struct{ junk, plain api.Type }{api.Type{Kind: api.TyData, Name: "f", Var: -9, Args: []api.Type{r.junk, r.junk}}, data("f", r.plain, r.plain)})
	}
	for _, r := range types {
		u := table(2)
		got, err := u.Resolve(r.junk)
		held(t, form(r.junk), err, nil)
		held(t, form(r.junk), got, r.plain)
		held(t, form(r.junk), u.Unify(r.junk, r.plain), nil)
		held(t, form(r.junk), u.Unify(r.plain, r.junk), nil)
		held(t, form(r.junk), all(t, u), "?0 ?1")
		held(t, form(r.junk), u.Unify(free(0), r.junk), nil)
		got, err = u.Resolve(free(0))
		held(t, form(r.junk), err, nil)
		held(t, form(r.junk), got, r.plain)
	}
}
