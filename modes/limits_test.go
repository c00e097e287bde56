package modes_test

import (
	"fmt"
	"strings"
	"testing"

	"augur/api"
	"augur/modes"
)

// run is what a row's body comes to in its mode.
func (r scheduled) run(t *testing.T) outcome {
	t.Helper()
	return tried(t, r.body(t), 0, 0)
}

// body is the body of a row.
func (r scheduled) body(t *testing.T) body {
	t.Helper()
	items, x := read(t, r.source())
	b, list := bodyOf(t, items, x, key("p", len(r.ways)))
	return body{b, r.args + " " + r.ways + " " + r.clauses, x, list}
}

// P8.1: which examinations count as looks, worked out by hand: with FTrues ahead of them such that there are 4000 the answer
// is the same, with one more it is ErrLarge, also where the list can't be scheduled.
func TestLooks(t *testing.T) {
	for _, c := range []struct {
		looks               int
		args, ways, clauses string
		err                 error
	}{
		{1, "", "", "", nil},
		{1, "", "", "p.", nil},
		{1, "", "", "p :- q.", nil},
		{3, "", "", "p :- q, q, q.", nil},
		{3, "", "", "p :- fail, q, fail.", nil},
		// Each time again from the first one on.
		{12, "t", "i", "p(X) :- r(W), r(Z), Z = Y, Y = X, W = Z.", nil},
		{1, "t", "o", "p(X) :- r(X).", api.ErrModes},
		{4, "t, t", "oo", "p(X, Y) :- r(X), q, r(Y).", api.ErrModes},
		{2, "t", "o", "p(X) :- q, q.", api.ErrModes},
		// FOr: up to the first goal that can't be scheduled.
		{4, "", "", "p :- (q ; q, q).", nil},
		{8, "", "", "p :- (r(X) ; q, q, q), X = a.", nil},
		{10, "", "", "p :- (q, q ; r(X) ; q), X = a.", nil},
		{6, "", "", "p :- (r(X), X = a ; q), q.", nil},
		{2, "", "", "p :- (r(X) ; q).", api.ErrModes},
		{3, "", "", "p :- (q ; r(X)).", api.ErrModes},
		{5, "", "", "p :- (r(X) ; q), q.", api.ErrModes},
		// FOr: all goals, also where they give other variables values.
		{9, "", "", "p :- (X = a ; q, q), X = b.", nil},
		{9, "", "", "p :- (q, q ; X = a), X = b.", nil},
		{4, "t", "o", "p(X) :- (X = a ; q, q).", api.ErrModes},
		{8, "t, t", "oo", "p(X, Y) :- (X = a ; Y = a ; q, q), (X = b ; q).", api.ErrModes},
		// FNot: nothing of it while a variable outside has no value.
		{2, "", "", "p :- not q.", nil},
		{3, "", "", "p :- not not q.", nil},
		{5, "", "", "p :- not (r(X), q), X = a.", nil},
		{5, "", "", "p :- not (q, X = b), X = a.", nil},
		{4, "", "", "p :- not throw X, X = 1.", nil},
		{3, "", "", "p :- not (q, r(X)).", api.ErrModes},
		{1, "t", "o", "p(X) :- not (q, r(X)).", api.ErrModes},
		{2, "", "", "p :- not (q, r(X)), not r(X).", api.ErrModes},
		// FTry: nothing of it while X may get a value elsewhere; up to the first goal that can't be scheduled.
		{3, "", "", "p :- try q catch E then q.", nil},
		{3, "int", "i", "p(E) :- try q catch E then q.", nil},
		{6, "", "", "p :- try (q, q) catch E then q, E = 1.", nil},
		{1, "int", "o", "p(E) :- try q catch E then q.", api.ErrModes},
		{1, "", "", "p :- try lt(E, E) catch E then q.", api.ErrModes},
		{7, "", "", "p :- try r(X) catch E then (q, q), X = a.", nil},
		{9, "", "", "p :- try (q, q) catch E then r(X), X = a.", nil},
		{2, "", "", "p :- try r(X) catch E then q.", api.ErrModes},
		{3, "", "", "p :- try q catch E then r(X).", api.ErrModes},
		{9, "", "", "p :- try X = a catch E then (q, q), X = b.", nil},
		{9, "", "", "p :- try (q, q) catch E then X = a, X = b.", nil},
		{4, "t", "o", "p(X) :- try X = a catch E then (q, q).", api.ErrModes},
	} {
		b := scheduled{args: c.args, ways: c.ways, clauses: c.clauses}.body(t)
		want := tried(t, b, 0, 0)
		held(t, b.text, want.err, c.err)
		held(t, b.text, tried(t, padded(b, modes.MaxLooks-c.looks), 0, 0), want)
		held(t, b.text, tried(t, padded(b, modes.MaxLooks-c.looks+1), 0, 0), outcome{err: api.ErrLarge})
	}
	held(t, "MaxLooks", modes.MaxLooks, 4000)
}

// many is so many of one goal, divided by commas.
func many(goal string, count int) string {
	return strings.TrimSuffix(strings.Repeat(goal+", ", count), ", ")
}

// P8.1: looks within goals, where each list has few goals of its own, or one has nearly all.
func TestLooksWithin(t *testing.T) {
	for _, c := range []struct {
		form  string
		first int // how many goals of the row take 4000 looks
	}{
		{"p :- %s.", 4000},
		{"p :- not (%s).", 3999},
		{"p :- not not not (%s).", 3997},
		{"p :- (%s ; q).", 3998},
		{"p :- (q ; %s).", 3998},
		{"p :- (q, not (q, (q ; %s)) ; q).", 3993},
		{"p :- try (%s) catch E then q.", 3998},
		{"p :- try q catch E then (%s).", 3998},
		{"p. p :- %s.", 3998},
		{"p. p :- %s. p.", 3997},
	} {
		clauses := func(goals int) string { return strings.ReplaceAll(fmt.Sprintf(c.form, many("q", goals)), ", ", ",") }
		got := scheduled{clauses: clauses(c.first)}.run(t)
		held(t, c.form, got.err, nil)
		held(t, c.form, strings.Count(got.goal, "q'0"), strings.Count(clauses(c.first), "q"))
		held(t, c.form, scheduled{clauses: clauses(c.first + 1)}.run(t), outcome{err: api.ErrLarge})
	}
}

// chain is goals of which each needs a value that the next one gives; the last one gives it.
func chain(goals int) string {
	var list []string
	for i := range goals - 1 {
		list = append(list, fmt.Sprintf("X%d = f(X%d)", i, i+1))
	}
	return strings.Join(append(list, fmt.Sprintf("X%d = a", goals-1)), ", ")
}

// P8.1: n goals that are ready back to front take n(n+1)/2 looks.
func TestLooksAddUp(t *testing.T) {
	got := scheduled{clauses: "p :- " + chain(88) + "."}.run(t)
	held(t, "88", got.err, nil)
	held(t, "88", strings.HasPrefix(got.goal, "[build 87 a, build 86 f 87, "), true)
	held(t, "88", strings.HasSuffix(got.goal, ", build 0 f 1]"), true)
	held(t, "89", scheduled{clauses: "p :- " + chain(89) + "."}.run(t), outcome{err: api.ErrLarge})
	// 88 goals take 3916, so there is room for 84.
	held(t, "84 more", scheduled{clauses: "p :- " + many("q", 84) + ", " + chain(88) + "."}.run(t).err, nil)
	held(t, "85 more", scheduled{clauses: "p :- " + many("q", 85) + ", " + chain(88) + "."}.run(t), outcome{err: api.ErrLarge})
	// A goal that is never ready, and is looked at each time.
	held(t, "never ready", scheduled{clauses: "p :- r(X), " + many("q", 1999) + "."}.run(t), outcome{err: api.ErrModes})
	held(t, "never ready", scheduled{clauses: "p :- r(X), " + many("q", 2000) + "."}.run(t), outcome{err: api.ErrLarge})
	held(t, "never ready", scheduled{clauses: "p :- r(X), r(X), " + many("q", 1332) + "."}.run(t), outcome{err: api.ErrModes})
	held(t, "never ready", scheduled{clauses: "p :- r(X), r(X), " + many("q", 1333) + "."}.run(t), outcome{err: api.ErrLarge})
}

// P8.1: 512 variables, with the new ones, and no more.
func TestVariables(t *testing.T) {
	room := func(args, ways, clauses string, vars int) {
		t.Helper()
		got := scheduled{args: args, ways: ways, clauses: clauses}.run(t)
		if vars > api.MaxRegs {
			held(t, fmt.Sprint(vars), got, outcome{err: api.ErrLarge})
			return
		}
		held(t, fmt.Sprint(vars), got.err, nil)
		held(t, fmt.Sprint(vars), len(strings.Fields(got.types)), vars)
	}
	for n := range 6 {
		room("t", "i", "p(X) :- "+many("new(X, X)", 253)+", "+many("free(X)", n+1)+".", 508+n)
		room("", "", "p :- X = a, "+many("r(a)", 199)+", "+many("new(X, X)", 154)+", "+many("free(X)", n+1)+".", 509+n)
		room("t", "i", "p(X) :- "+many("X = g(X, X)", 253)+", "+many("free(X)", n+1)+".", 508+n)
		room("int", "i", "p(X) :- "+many("try q catch X then q", 508+n)+".", 509+n)
		room("t", "i", "p(X) :- ("+many("new(X, X)", 126)+" ; not ("+many("new(X, X)", 127)+", "+many("free(X)", n+1)+")).", 508+n)
		// Those of goals that aren't ready yet are none.
		room("t, t", "ii", "p(X, Y) :- ("+many("new(X, X)", 127)+", r(Z) ; q), Z = a, ("+many("new(X, X)", 126)+", "+many("free(X)", n+1)+" ; q), (free(X) ; Z = b).", 511+n)
	}
}

// P8.1: which error is the first: of looks, of a list that can't be scheduled, of an argument without a value, of variables.
func TestFirstError(t *testing.T) {
	large, none := many("new(Y, Y)", 256), ", "+many("q", 4000)
	for _, r := range []struct {
		ways, clauses string
		err           error
	}{
		{"ii", "p(X, Y) :- " + large + ".", api.ErrLarge},
		{"oi", "p(X, Y) :- " + large + ".", api.ErrModes},
		{"oi", "p(X, Y) :- " + large + ", X = a.", api.ErrLarge},
		{"ii", "p(X, Y) :- " + large + ", r(Z).", api.ErrModes},
		{"oi", "p(X, Y) :- " + large + ", r(X).", api.ErrModes},
		{"ii", "p(X, Y) :- " + large + none + ".", api.ErrLarge},
		{"ii", "p(X, Y) :- r(Z)" + none + ".", api.ErrLarge},
		{"oi", "p(X, Y) :- q" + none + ".", api.ErrLarge},
		{"oi", "p(X, Y) :- q.", api.ErrModes},
	} {
		clauses := strings.ReplaceAll(r.clauses, ", ", ",")
		held(t, r.ways+clauses, scheduled{args: "t, t", ways: r.ways, clauses: clauses}.run(t), outcome{err: r.err})
	}
}
