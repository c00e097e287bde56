package sem_test

import (
	"strings"
	"testing"

	"augur/api"
	"augur/sem"
)

// row is procedures, of which the first one is called with these inputs, the outcomes, and how many steps and raises the run makes.
type row struct {
	procs, in, want string
	steps, raises   int
}

// solved holds the answers for a row against it, and those for each fuel and number of outcomes against the second form.
func solved(t *testing.T, r row) {
	t.Helper()
	p, in, what := programOf(t, r.procs), list(t, r.in), r.procs+" of "+r.in
	id := p.procs[0].Id
	all, end, err := sem.Solve(p.x, p.procs, id, in, 1000, 1000)
	held(t, what, err, nil)
	held(t, what, told(all, end), r.want)
	steps, raises, end, err := sem.Steps(p.x, p.procs, id, in, 1000)
	held(t, what, []int{steps, raises, end}, []int{r.steps, r.raises, sem.Ended})
	held(t, what, err, nil)
	for fuel := -1; fuel <= r.steps+2; fuel++ {
		_, w := agree(t, what, p, id, in, fuel)
		held(t, what, w.steps, min(max(fuel, 0), r.steps))
		held(t, what, w.end == sem.Fuel, fuel < r.steps)
		for most := -1; most <= len(all)+1; most++ {
			agreeFor(t, what, p, id, in, fuel, most)
		}
	}
}

// lines is procedures one behind the other.
func lines(procs ...string) string { return strings.Join(procs, "\n") }

// P11.1: goals without goals within them.
func TestPlainGoals(t *testing.T) {
	for _, r := range []row{
		{"p: true", "", "true", 1, 0},
		{"p i: true", "5", "true", 1, 0},
		{"p: fail", "", "", 1, 0},
		{"p io: copy 1 0", "7", "7", 1, 0},
		{"p io: copy 1 0", "g(a, f(b))", "g(a, f(b))", 1, 0},
		{"p ioo: [copy 1 0, copy 2 1]", "-7", "-7, -7", 3, 0},
		{"p ii: test 0 1", "1 | 1", "true", 1, 0},
		{"p ii: test 0 1", "1 | 2", "", 1, 0},
		{"p ii: test 0 1", "1 | a", "", 1, 0},
		{"p ii: test 0 1", "a | 0", "", 1, 0},
		{"p ii: test 0 1", "a | a", "true", 1, 0},
		{"p ii: test 0 1", "a | b", "", 1, 0},
		{"p ii: test 0 1", "f | f(a)", "", 1, 0},
		{"p ii: test 0 1", "f(a) | f(a)", "true", 1, 0},
		{"p ii: test 0 1", "f(a) | f(b)", "", 1, 0},
		{"p ii: test 0 1", "h(0) | h(0, a)", "", 1, 0},
		{"p ii: test 0 1", "h(1) | h(2)", "", 1, 0},
		{"p ii: test 0 1", "g(a, f(f(h(3)))) | g(a, f(f(h(3))))", "true", 1, 0},
		{"p ii: test 0 1", "g(a, f(f(h(3)))) | g(a, f(f(h(4))))", "", 1, 0},
		{"p ii: test 0 1", "g(a, b) | g(b, a)", "", 1, 0},
		{"p ii: test 0 1", "g(a, b) | g(a, a)", "", 1, 0},
		{"p i: test 0 0", "g(a, b)", "true", 1, 0},
		{"p o: load 0 5", "", "5", 1, 0},
		{"p o: load 0 -9223372036854775808", "", "-9223372036854775808", 1, 0},
		{"p i: is 0 5", "5", "true", 1, 0},
		{"p i: is 0 5", "6", "", 1, 0},
		{"p i: is 0 -5", "5", "", 1, 0},
		{"p i: is 0 0", "0", "true", 1, 0},
		{"p i: is 0 0", "a", "", 1, 0},
		{"p o: build 0 a", "", "a", 1, 0},
		{"p io: build 1 f 0", "a", "f(a)", 1, 0},
		{"p iio: build 2 g 1 0", "a | b", "g(b, a)", 1, 0},
		{"p io: build 1 g 0 0", "a", "g(a, a)", 1, 0},
		{"p i: match 0 a", "a", "true", 1, 0},
		{"p i: match 0 a", "b", "", 1, 0},
		{"p i: match 0 a", "f(a)", "", 1, 0},
		{"p i: match 0 f", "f", "true", 1, 0},
		{"p i: match 0 f", "f(a)", "", 1, 0},
		{"p i: match 0 f 1", "f", "", 1, 0},
		{"p io: match 0 f 1", "f(g(a, b))", "g(a, b)", 1, 0},
		{"p ioo: match 0 g 2 1", "g(a, b)", "b, a", 1, 0},
		{"p io: match 0 h 1", "h(9)", "9", 1, 0},
		{"p io: match 0 h 1", "h(9, a)", "", 1, 0},
		{"p i: match 0 a", "7", "", 1, 0},
		{"p o: [load 1 6, throw 1]", "", "raise 6", 3, 1},
		{"p i: throw 0", "0", "raise 0", 1, 1},
		{"p i: throw 0", "-9223372036854775808", "raise -9223372036854775808", 1, 1},
		{"p io: throw 0", "3", "raise 3", 1, 1},
		// Arguments in any places.
		{"p oioi: [copy 2 1, copy 0 3]", "1 | 2", "2, 1", 3, 0},
		{"p oiiiiiio: [copy 0 6, build 7 g 1 2]", "a | b | 3 | 4 | 5 | 6", "6, g(a, b)", 3, 0},
	} {
		solved(t, r)
	}
}

// P11.1: calls of predicates that are built in.
func TestBuiltins(t *testing.T) {
	for _, r := range []row{
		{"p iio: add'0 0 1 2", "7 | 2", "9", 1, 0},
		{"p iio: sub'0 0 1 2", "7 | 2", "5", 1, 0},
		{"p iio: sub'0 1 0 2", "7 | 2", "-5", 1, 0},
		{"p iio: mul'0 0 1 2", "7 | 2", "14", 1, 0},
		{"p iio: div'0 0 1 2", "7 | 2", "3", 1, 0},
		{"p iio: div'0 0 1 2", "-7 | 2", "-3", 1, 0},
		{"p iio: mod'0 0 1 2", "-7 | 2", "-1", 1, 0},
		{"p iio: mod'0 0 1 2", "-9223372036854775808 | -1", "0", 1, 0},
		{"p io: mul'0 0 0 1", "-7", "49", 1, 0},
		{"p ii: lt'0 0 1", "1 | 2", "true", 1, 0},
		{"p ii: lt'0 0 1", "2 | 2", "", 1, 0},
		{"p ii: lt'0 0 1", "3 | 2", "", 1, 0},
		{"p ii: lt'0 1 0", "3 | 2", "true", 1, 0},
		{"p ii: le'0 0 1", "1 | 2", "true", 1, 0},
		{"p ii: le'0 0 1", "2 | 2", "true", 1, 0},
		{"p ii: le'0 0 1", "3 | 2", "", 1, 0},
		{"p iio: add'0 0 1 2", "9223372036854775807 | 1", "raise 2", 1, 1},
		{"p iio: sub'0 0 1 2", "-9223372036854775808 | 1", "raise 2", 1, 1},
		{"p iio: mul'0 0 1 2", "4611686018427387904 | 2", "raise 2", 1, 1},
		{"p iio: div'0 0 1 2", "-9223372036854775808 | -1", "raise 2", 1, 1},
		{"p iio: div'0 0 1 2", "7 | 0", "raise 1", 1, 1},
		{"p iio: mod'0 0 1 2", "7 | 0", "raise 1", 1, 1},
		{"p iio: [div'0 0 1 3, copy 2 3]", "7 | 0", "raise 1", 2, 1},
		{"p iio: or(div'0 0 1 2, copy 2 0)", "7 | 0", "raise 1", 2, 1},
		{"p iio: or(copy 2 0, div'0 0 1 2, copy 2 1)", "7 | 0", "7 ; raise 1", 3, 1},
	} {
		solved(t, r)
	}
}

// P11.1: lists, choices and switches; each goal that is entered is a step.
func TestLists(t *testing.T) {
	for _, r := range []row{
		{"p o: [load 1 2, copy 0 1]", "", "2", 3, 0},
		{"p o: [load 1 2, [copy 2 1, copy 3 2], copy 0 3]", "", "2", 6, 0},
		{"p o: [[[load 0 2]]]", "", "2", 4, 0},
		{"p: [true, fail, true]", "", "", 3, 0},
		{"p: []", "", "true", 1, 0},
		{"p o: or(load 0 1, load 0 2)", "", "1 ; 2", 3, 0},
		{"p o: or(load 0 1, load 0 1)", "", "1 ; 1", 3, 0},
		{"p o: or(load 0 3, fail, load 0 1, [fail, load 0 9], load 0 2)", "", "3 ; 1 ; 2", 7, 0},
		{"p: or(fail, fail)", "", "", 3, 0},
		{"p: or()", "", "", 1, 0},
		{"p: or(true)", "", "true", 2, 0},
		{"p o: or(or(load 0 1, load 0 2), or(load 0 3, load 0 4))", "", "1 ; 2 ; 3 ; 4", 7, 0},
		{"p o: or([load 1 1, or(load 0 1, copy 0 1)], load 0 5)", "", "1 ; 1 ; 5", 7, 0},
		// The second goal is entered anew for each solution of the first one.
		{"p o: [or(load 1 1, load 1 2), or(load 2 10, load 2 20), add'0 1 2 0]", "", "11 ; 21 ; 12 ; 22", 14, 0},
		{"p o: [or(load 1 1, load 1 2), is 1 2, load 0 7]", "", "7", 7, 0},
		{"p o: [or(load 1 1, load 1 2, load 1 3), [or(copy 2 1, load 2 9)], copy 0 2]", "", "1 ; 9 ; 2 ; 9 ; 3 ; 9", 23, 0},
		{"p oo: [or([load 0 1, or(load 1 2, load 1 3)], [load 1 4, load 0 5]), true]", "", "1, 2 ; 1, 3 ; 5, 4", 13, 0},
		// What an SOr's second goal is entered with isn't what the first one, or what followed it, gave.
		{"p o: or([load 1 1, copy 0 1, is 1 2], [load 1 5, copy 0 1])", "", "5", 8, 0},
		{"p o: [or([load 1 3, or(true, is 1 3)], true), load 1 4, copy 0 1]", "", "4 ; 4 ; 4", 14, 0},
		{"p io: switch 0 (a/0: load 1 1; b/0: load 1 2; f/1: [match 0 f 2, copy 1 2])", "a", "1", 2, 0},
		{"p io: switch 0 (a/0: load 1 1; b/0: load 1 2; f/1: [match 0 f 2, copy 1 2])", "b", "2", 2, 0},
		{"p io: switch 0 (a/0: load 1 1; b/0: load 1 2; f/1: [match 0 f 2, copy 1 2])", "f(g(a, b))", "g(a, b)", 4, 0},
		{"p io: switch 0 (a/0: load 1 1; b/0: load 1 2; f/1: [match 0 f 2, copy 1 2])", "f", "", 1, 0},
		{"p io: switch 0 (a/0: load 1 1; b/0: load 1 2; f/1: [match 0 f 2, copy 1 2])", "g(a, b)", "", 1, 0},
		{"p io: switch 0 (h/1: or(load 1 1, load 1 2); h/2: fail)", "h(5)", "1 ; 2", 4, 0},
		{"p io: switch 0 (h/1: or(load 1 1, load 1 2); h/2: fail)", "h(5, a)", "", 2, 0},
		{"p io: switch 0 (h/1: match 0 h 1; h/2: match 0 h 1 2)", "h(5, a)", "5", 2, 0},
		{"p i: switch 0 (a/0: true)", "0", "", 1, 0},
		{"p io: or(switch 0 (b/0: load 1 1), load 1 2)", "a", "2", 3, 0},
		{"p iio: switch 0 (a/0: switch 1 (a/0: load 2 1; b/0: load 2 2); b/0: fail)", "a | b", "2", 3, 0},
	} {
		solved(t, r)
	}
}

// P11.1: goals of which it is asked that they fail.
func TestNot(t *testing.T) {
	for _, r := range []row{
		{"p: not(fail)", "", "true", 2, 0},
		{"p: not(true)", "", "", 2, 0},
		{"p: not(not(true))", "", "true", 3, 0},
		{"p: not(not(fail))", "", "", 3, 0},
		// No further solution is searched.
		{"p: not(or(fail, true, true))", "", "", 4, 0},
		{"p: not(or(fail, fail))", "", "true", 4, 0},
		{"p: not(or([true, fail], fail))", "", "true", 6, 0},
		{"p: not([or(load 0 1, load 0 2, load 0 3), is 0 2])", "", "", 7, 0},
		{"p: not([or(load 0 1, load 0 2, load 0 3), is 0 4])", "", "true", 9, 0},
		// The choices ahead of it remain, those within it are gone.
		{"p o: [or(load 0 1, load 0 2), not(is 0 1)]", "", "2", 8, 0},
		{"p o: [or(load 0 1, load 0 2), not(or(is 0 1, is 0 2))]", "", "", 11, 0},
		{"p o: [or(load 0 1, load 0 2), not([or(true, true), is 0 3]), true]", "", "1 ; 2", 20, 0},
		{"p o: [not(is 0 1), or(load 0 1, load 0 2)]", "", "1 ; 2", 6, 0},
		// It gives no values.
		{"p o: [not([load 1 1, fail]), load 1 5, copy 0 1]", "", "5", 7, 0},
		{"p i: not(throw 0)", "5", "raise 5", 2, 1},
		{"p i: not(or(true, throw 0))", "5", "", 3, 0},
		{"p i: [not(or(fail, throw 0)), true]", "5", "raise 5", 5, 1},
	} {
		solved(t, r)
	}
}

// P11.1: what is raised, and where it is caught.
func TestTry(t *testing.T) {
	for _, r := range []row{
		{"p o: try 1 (load 0 1, load 0 2)", "", "1", 2, 0},
		{"p o: try 1 ([load 2 9, throw 2], copy 0 1)", "", "9", 5, 1},
		{"p i: try 1 (throw 0, is 1 5)", "5", "true", 3, 1},
		{"p i: try 1 (throw 0, is 1 5)", "6", "", 3, 1},
		{"p io: try 2 (div'0 0 0 1, copy 1 2)", "0", "1", 3, 1},
		{"p io: try 2 (mul'0 0 0 1, copy 1 2)", "9223372036854775807", "2", 3, 1},
		// If the first goal fails, so does all of it.
		{"p o: try 1 (fail, load 0 1)", "", "", 2, 0},
		{"p o: try 1 (or(fail, fail), load 0 1)", "", "", 4, 0},
		{"p o: or(try 1 (fail, load 0 1), load 0 2)", "", "2", 4, 0},
		// No further solution of the first goal is searched, but those of the second one are.
		{"p o: try 1 (or(load 0 1, load 0 2), load 0 3)", "", "1", 3, 0},
		{"p o: [try 1 (or(load 2 1, load 2 2), load 2 3), copy 0 2, is 0 2]", "", "", 6, 0},
		{"p io: try 2 (throw 0, or(copy 1 2, load 1 7))", "4", "4 ; 7", 5, 1},
		{"p io: [try 2 (throw 0, or(copy 1 2, load 1 7)), is 1 7]", "4", "7", 8, 1},
		{"p o: try 1 ([or(load 2 1, load 2 2), is 2 2, copy 0 2], load 0 3)", "", "2", 8, 0},
		// What follows isn't guarded, nor is the second goal.
		{"p: [try 1 (true, true), load 2 4, throw 2]", "", "raise 4", 5, 1},
		{"p i: try 1 (throw 0, throw 1)", "4", "raise 4", 3, 2},
		{"p io: [try 2 (true, true), load 1 7, or(true, throw 0, true)]", "4", "7 ; raise 4", 7, 1},
		{"p io: [or(try 2 (true, true), throw 0), load 1 7]", "4", "7 ; raise 4", 6, 1},
		{"p io: [or(load 1 1, throw 0), try 2 (true, true)]", "4", "1 ; raise 4", 6, 1},
		{"p ioo: [or(load 1 1, load 1 2), try 3 ([is 1 2, throw 0], load 2 3), copy 2 3]", "4", "2, 4", 13, 1},
		{"p io: [or(load 1 1, throw 0), try 2 (fail, true)]", "4", "raise 4", 6, 1},
		// A guard is there again where a choice within it is taken, also behind another guard.
		{"p io: try 2 ([or(load 3 1, throw 0), is 3 2, load 1 0], copy 1 2)", "8", "8", 7, 1},
		{"p io: try 2 ([or(load 3 1, throw 0), try 4 (is 3 2, true), load 1 0], copy 1 2)", "8", "8", 8, 1},
		{"p io: try 2 ([try 4 (true, true), load 1 3, throw 0], copy 1 2)", "8", "8", 7, 1},
		{"p io: try 2 ([try 4 (throw 0, true), throw 0], copy 1 2)", "8", "8", 7, 2},
		{"p io: try 2 ([try 4 (throw 0, [load 3 5, throw 3]), true], copy 1 2)", "8", "5", 8, 2},
		{"p io: try 2 (try 3 (throw 0, [load 4 1, add'0 3 4 5, throw 5]), copy 1 2)", "8", "9", 8, 2},
		{"p io: try 2 (try 3 (try 4 (throw 0, throw 4), throw 3), copy 1 2)", "8", "8", 7, 3},
		{"p io: try 2 (try 3 (fail, load 1 1), copy 1 2)", "8", "", 3, 0},
		{"p io: or(try 2 (or(fail, fail), copy 1 2), [load 1 1, throw 0])", "8", "raise 8", 8, 1},
		// The second goal has the values from ahead of the STry, and the choices ahead of it remain.
		{"p io: [load 3 1, try 2 ([load 4 2, load 5 3, throw 0], [load 4 20, add'0 3 4 1])]", "8", "21", 10, 1},
		{"p io: [or(load 3 1, load 3 2), try 2 ([or(true, true), throw 0], add'0 2 3 1)]", "8", "9 ; 10", 16, 2},
		{"p ioo: [or(load 3 1, load 3 2), try 2 (throw 0, copy 2 2), copy 1 3]", "8", "1, 8 ; 2, 8", 12, 2},
		{"p io: [try 2 (not(throw 0), copy 1 2)]", "8", "8", 5, 1},
		{"p io: [not(try 2 (throw 0, fail)), copy 1 0]", "8", "8", 6, 1},
		{"p io: [not([try 2 (throw 0, true), fail]), copy 1 0]", "8", "8", 8, 1},
		// Outcomes ahead of what is raised.
		{"p io: or(load 1 1, [load 1 7, throw 1], load 1 2)", "0", "1 ; raise 7", 5, 1},
		{"p io: or(load 1 1, copy 1 0, throw 0)", "3", "1 ; 3 ; raise 3", 4, 1},
	} {
		solved(t, r)
	}
}

// P11.1: calls of procedures.
func TestCalls(t *testing.T) {
	twice := "twice io: [add'0 0 0 1]"
	some := "some io: or(copy 1 0, [load 2 1, add'0 0 2 1])"
	fork := "fork iioo: [or(copy 2 0, copy 2 1), or(copy 3 0, copy 3 1)]"
	for _, r := range []row{
		{lines("p: q'0", "q: true"), "", "true", 2, 0},
		{lines("p: q'0", "q: fail"), "", "", 2, 0},
		{lines("p: [q'0, q'0]", "q: or(true, true)"), "", "true ; true ; true ; true", 13, 0},
		{lines("p io: twice'0 0 1", twice), "5", "10", 3, 0},
		{lines("p io: [twice'0 0 2, twice'0 2 3, sub'0 3 0 1]", twice), "5", "15", 8, 0},
		{lines("p io: some'0 0 1", some), "5", "5 ; 6", 6, 0},
		{lines("p io: [some'0 0 2, some'0 2 1]", some), "5", "5 ; 6 ; 6 ; 7", 19, 0},
		{lines("p iioo: fork'0 1 0 2 3", fork), "1 | 2", "2, 2 ; 2, 1 ; 1, 2 ; 1, 1", 11, 0},
		{lines("p ioo: fork'0 0 0 2 1", fork), "1", "1, 1 ; 1, 1 ; 1, 1 ; 1, 1", 11, 0},
		// A procedure has variables of its own.
		{lines("p iio: [load 3 70, q'0 1 0 4, add'0 3 4 2]", "q iio: [load 3 1, load 4 2, sub'0 0 1 5, copy 2 5]"), "5 | 9", "74", 9, 0},
		// Modes are procedures of their own.
		{lines("p o: [load 1 4, q'1 0 1]", "q io: load 1 1", "q oi: [copy 0 1]", "q oo: fail"), "", "4", 5, 0},
		{lines("p oo: q'2 0 1", "q io: load 1 1", "q oi: [copy 0 1]", "q oo: [load 0 1, load 1 2]"), "", "1, 2", 4, 0},
		{lines("p o: [load 1 4, q'0 1 0]", "q io: load 1 1", "q oi: [copy 0 1]"), "", "1", 4, 0},
		// Predicates of one name, and one of the name of a predicate that is built in.
		{lines("p io: q'0 0 1", "q i: fail", "q io: copy 1 0"), "5", "5", 2, 0},
		{lines("p io: add'0 0 1", "add io: load 1 3"), "5", "3", 2, 0},
		// What is raised passes through calls, to the innermost guard that is still there.
		{lines("p i: q'0 0", "q i: throw 0"), "5", "raise 5", 2, 1},
		{lines("p io: try 2 (q'0 0, copy 1 2)", "q i: [true, throw 0]"), "5", "5", 6, 1},
		{lines("p io: [q'0 0, copy 1 0, throw 0]", "q i: try 1 (true, true)"), "5", "raise 5", 6, 1},
		{lines("p io: [q'0 0 1, throw 1]", "q io: or(try 2 (throw 0, copy 1 2), load 1 9)"), "5", "raise 5", 7, 2},
		{lines("p io: try 3 ([q'0 0 2, is 2 1], copy 1 3)", "q io: or(try 2 (load 1 7, copy 1 2), throw 0)"), "5", "5", 9, 1},
		// Choices within a procedure remain when it has given a solution.
		{lines("p o: [q'0 1, is 1 3, copy 0 1]", "q o: or(load 0 1, or(load 0 2, load 0 3), load 0 4)"), "", "3", 13, 0},
		{lines("p o: [q'0 1, not(is 1 1), copy 0 1]", "q o: [r'0 1, r'0 0]", "r o: or(load 0 1, load 0 2)"), "", "2 ; 2", 25, 0},
		{lines("p o: [not(q'0 1), load 0 1]", "q o: or(load 0 1, load 0 2)"), "", "", 5, 0},
		{lines("p o: try 1 (q'0 0, true)", "q o: or(load 0 1, load 0 2)"), "", "1", 4, 0},
		{lines("p io: switch 0 (a/0: load 1 0; f/1: [match 0 f 2, p'0 2 3, load 4 1, add'0 3 4 1])"), "f(f(f(a)))", "3", 20, 0},
	} {
		solved(t, r)
	}
}

// P11.1: what a procedure that isn't the first one answers, and in another mode.
func TestWhichIsCalled(t *testing.T) {
	p := programOf(t, lines("p io: copy 1 0", "p oi: load 0 2", "p oo: [load 0 3, load 1 4]", "p i: fail", "q io: load 1 6"))
	for _, r := range []struct{ call, in, want string }{
		{"p/2'0", "1", "1"},
		{"p/2'1", "1", "2"},
		{"p/2'2", "", "3, 4"},
		{"p/1'0", "1", ""},
		{"q/2'0", "1", "6"},
	} {
		all, end, err := sem.Solve(p.x, p.procs, called(t, r.call), list(t, r.in), 100, 100)
		held(t, r.call, err, nil)
		held(t, r.call, told(all, end), r.want)
	}
	// Of two with one id it is the first one, as layer 9's Find has it.
	p.procs = append(p.procs, api.Proc{Id: called(t, "q/2'0"), In: []bool{true, false}, Goal: goalOf(t, "fail")})
	all, end, _ := sem.Solve(p.x, p.procs, called(t, "q/2'0"), list(t, "1"), 100, 100)
	held(t, "two", told(all, end), "6")
}
