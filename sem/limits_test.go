package sem_test

import (
	"fmt"
	"math"
	"slices"
	"strings"
	"testing"

	"augur/api"
	"augur/sem"
)

// choices is an SOr of so many goals that succeed.
func choices(count int) api.Sched {
	return goal(api.SOr, slices.Repeat([]api.Sched{goal(api.STrue)}, count)...)
}

// P11.1: a run makes no more steps than its fuel, nor than MaxSteps.
func TestFuel(t *testing.T) {
	p := programOf(t, "p: true")
	id := p.procs[0].Id
	for _, r := range []struct{ choices, fuel, steps, outcomes, end int }{
		{99999, 100000, 100000, 99999, sem.Ended},
		{99999, 100001, 100000, 99999, sem.Ended},
		{99999, math.MaxInt, 100000, 99999, sem.Ended},
		{99999, 99999, 99999, 99998, sem.Fuel},
		{100000, 100000, 100000, 99999, sem.Fuel},
		{100000, 100001, 100000, 99999, sem.Fuel},
		{100000, math.MaxInt, 100000, 99999, sem.Fuel},
		{5, 6, 6, 5, sem.Ended},
		{5, 5, 5, 4, sem.Fuel},
		{5, 2, 2, 1, sem.Fuel},
		{5, 1, 1, 0, sem.Fuel},
		{5, 0, 0, 0, sem.Fuel},
		{5, -1, 0, 0, sem.Fuel},
		{5, math.MinInt, 0, 0, sem.Fuel},
	} {
		p.procs[0].Goal = choices(r.choices)
		what := form(r)
		list, end, err := sem.Solve(p.x, p.procs, id, nil, r.fuel, math.MaxInt)
		held(t, what, []any{len(list), end, err}, []any{r.outcomes, r.end, nil})
		steps, raises, end, err := sem.Steps(p.x, p.procs, id, nil, r.fuel)
		held(t, what, []any{steps, raises, end, err}, []any{r.steps, 0, r.end, nil})
	}
}

// P11.1: how many outcomes are returned; a run that is stopped has ended, whatever would have come behind.
func TestMost(t *testing.T) {
	p := programOf(t, "p io: or(load 1 1, load 1 2, throw 0, load 1 3)")
	id, in := p.procs[0].Id, list(t, "5")
	for _, r := range []struct {
		fuel, most int
		want       string
	}{
		{100, math.MinInt, ""},
		{100, -1, ""},
		{100, 0, ""},
		{100, 1, "1"},
		{100, 2, "1 ; 2"},
		{100, 3, "1 ; 2 ; raise 5"},
		{100, 4, "1 ; 2 ; raise 5"},
		{100, math.MaxInt, "1 ; 2 ; raise 5"},
		{4, 3, "1 ; 2 ; raise 5"},
		{3, 3, "1 ; 2 ; fuel"},
		{3, 2, "1 ; 2"},
		{2, 2, "1 ; fuel"},
		{2, 1, "1"},
		{1, 1, "fuel"},
		{1, 0, ""},
		{0, 0, ""},
		{0, 1, "fuel"},
		{-1, 0, ""},
		{-1, -1, ""},
	} {
		got, end, err := sem.Solve(p.x, p.procs, id, in, r.fuel, r.most)
		held(t, form(r), err, nil)
		held(t, form(r), told(got, end), r.want)
	}
}

// chain is data of a depth.
func chain(depth int) string {
	return strings.Repeat("f(", depth-1) + "a" + strings.Repeat(")", depth-1)
}

// chainOf is the same, where it is too deep for a text.
func chainOf(depth int) api.Data {
	d := made("a")
	for range depth - 1 {
		d = made("f", d)
	}
	return d
}

// tree is data of so many nodes, not deep.
func tree(nodes int) api.Data {
	switch nodes {
	case 1:
		return made("a")
	case 2:
		return made("f", made("b"))
	}
	half := (nodes - 1) / 2
	return made("g", tree(half), tree(nodes-1-half))
}

// P11.1: a value that is too large or too deep isn't built.
func TestLarge(t *testing.T) {
	again := "p io: [match 0 f 2, build 3 f 2, build 1 f 3]"
	double := "p io: [build 2 g 0 0, q'0 2 1]\nq io: [build 2 g 0 0, build 3 g 2 2, build 1 g 3 3]"
	for _, r := range []struct {
		procs    string
		in       []api.Data
		outcomes int
		end      string
		steps    int
	}{
		{"p io: build 1 f 0", []api.Data{chainOf(199)}, 1, "", 1},
		{"p io: build 1 f 0", []api.Data{chainOf(200)}, 0, "large", 1},
		{"p iio: build 2 g 0 1", []api.Data{chainOf(1), chainOf(199)}, 1, "", 1},
		{"p iio: build 2 g 0 1", []api.Data{chainOf(1), chainOf(200)}, 0, "large", 1},
		{"p iio: build 2 g 0 1", []api.Data{chainOf(200), chainOf(1)}, 0, "large", 1},
		{"p iio: build 2 g 0 1", []api.Data{tree(2000), tree(2095)}, 1, "", 1},
		{"p iio: build 2 g 0 1", []api.Data{tree(2000), tree(2096)}, 0, "large", 1},
		{"p iio: build 2 g 1 0", []api.Data{tree(1), tree(4094)}, 1, "", 1},
		{"p iio: build 2 g 1 0", []api.Data{tree(1), tree(4095)}, 0, "large", 1},
		{"p io: build 1 f 0", []api.Data{tree(4095)}, 1, "", 1},
		{"p io: build 1 f 0", []api.Data{tree(4096)}, 0, "large", 1},
		{"p io: build 1 g 0 0", []api.Data{tree(2047)}, 1, "", 1},
		{"p io: build 1 g 0 0", []api.Data{tree(2048)}, 0, "large", 1},
		{"p io: copy 1 0", []api.Data{tree(4096)}, 1, "", 1},
		{"p io: copy 1 0", []api.Data{chainOf(200)}, 1, "", 1},
		// What is taken apart has its own size.
		{again, []api.Data{chainOf(199)}, 1, "", 4},
		{again, []api.Data{chainOf(200)}, 0, "large", 4},
		{again, []api.Data{made("f", tree(4094))}, 1, "", 4},
		{again, []api.Data{made("f", tree(4095))}, 0, "large", 4},
		{double, []api.Data{tree(255)}, 1, "", 7},
		{double, []api.Data{tree(256)}, 0, "large", 7},
		{double, []api.Data{tree(1000)}, 0, "large", 6},
		{double, []api.Data{tree(2000)}, 0, "large", 5},
		{double, []api.Data{tree(3000)}, 0, "large", 2},
		// Nothing keeps the run from being aborted.
		{"p io: try 2 (build 1 f 0, copy 1 0)", []api.Data{chainOf(200)}, 0, "large", 2},
		{"p io: [not(build 2 f 0), copy 1 0]", []api.Data{chainOf(200)}, 0, "large", 3},
		{"p io: or(build 1 f 0, copy 1 0)", []api.Data{chainOf(200)}, 0, "large", 2},
		{"p io: or(copy 1 0, build 1 f 0, copy 1 0)", []api.Data{chainOf(200)}, 1, "large", 3},
		{"p io: or(copy 1 0, copy 1 0, [q'0 0 1, true], copy 1 0)\nq io: try 2 (try 3 (not(build 4 f 0), true), copy 1 2)", []api.Data{chainOf(200)}, 2, "large", 9},
	} {
		p, what := programOf(t, r.procs), r.procs+" of "+form(r.in)
		id := p.procs[0].Id
		got, end, err := sem.Solve(p.x, p.procs, id, r.in, 1000, 1000)
		held(t, what, err, nil)
		held(t, what, told(nil, end), r.end)
		held(t, what, len(got), r.outcomes)
		steps, _, _, _ := sem.Steps(p.x, p.procs, id, r.in, 1000)
		held(t, what, steps, r.steps)
		for fuel := range r.steps + 2 {
			agree(t, what, p, id, r.in, fuel)
		}
	}
}

// down calls itself as often as its input tells, each time nested in the one before; it leaves choices behind.
const down = "down i: or(is 0 0, [not(is 0 0), load 1 1, sub'0 0 1 2, or(down'0 2, fail)])"

// P11.1: procedures that are nested too deep.
func TestFrames(t *testing.T) {
	up := "up io: or([is 0 0, copy 1 0], [not(is 0 0), load 2 1, sub'0 0 2 3, up'0 3 4, add'0 4 2 1])"
	for _, r := range []struct{ procs, in, want string }{
		{down, "1023", "true"},
		{down, "1024", "frames"},
		{down, "100000", "frames"},
		{up, "1023", "1023"},
		{up, "1024", "frames"},
		{"p i: down'0 0\n" + down, "1022", "true"},
		{"p i: down'0 0\n" + down, "1023", "frames"},
		{"p i: not(down'0 0)\n" + down, "1022", ""},
		{"p i: not(down'0 0)\n" + down, "1023", "frames"},
		{"p i: try 1 (down'0 0, true)\n" + down, "1022", "true"},
		{"p i: try 1 (down'0 0, true)\n" + down, "1023", "frames"},
		{"p i: or(true, down'0 0, true)\n" + down, "1022", "true ; true ; true"},
		{"p i: or(true, down'0 0, true)\n" + down, "1023", "true ; frames"},
		// A procedure that has given its solution doesn't count for what its caller does next, also where it left choices.
		{"p i: [down'0 0, down'0 0, down'0 0]\n" + down, "1022", "true"},
		{"p io: [up'0 0 2, up'0 2 3, up'0 3 1]\n" + up, "1022", "1022"},
		{"p io: [q'0, up'0 0 1]\nq: [q2'0, true]\nq2: or(true, true)\n" + up, "1022", "1022 ; 1022"},
		// It does for what is called in its own body, also behind a solution of another one.
		{"p i: q'0 0\nq i: [r'0, down'0 0]\nr: or(true, true)\n" + down, "1021", "true ; true"},
		{"p i: q'0 0\nq i: [r'0, down'0 0]\nr: or(true, true)\n" + down, "1022", "frames"},
		// A predicate that is built in isn't nested.
		{"p io: down'0 0 1\ndown io: or([is 0 0, add'0 0 0 1], [not(is 0 0), load 2 1, sub'0 0 2 3, down'0 3 1])", "1022", "0"},
		// What is raised ends what is nested: also often.
		{"p i: [or(true, true, true), try 1 (q'0 0, is 1 0)]\nq i: or([is 0 0, throw 0], [not(is 0 0), load 1 1, sub'0 0 1 2, q'0 2, true])", "1022", "true ; true ; true"},
		{"p i: [or(true, true, true), try 1 (q'0 0, is 1 0)]\nq i: or([is 0 0, throw 0], [not(is 0 0), load 1 1, sub'0 0 1 2, q'0 2, true])", "1023", "frames"},
	} {
		p, what := programOf(t, r.procs), r.procs+" of "+r.in
		id, in := p.procs[0].Id, list(t, r.in)
		got, end, err := sem.Solve(p.x, p.procs, id, in, 100000, 1000)
		held(t, what, err, nil)
		held(t, what, told(got, end), r.want)
		_, w := agree(t, what, p, id, in, 100000)
		for near := -1; near <= 1; near++ {
			agree(t, what, p, id, in, w.steps+near)
		}
	}
}

// P11.1: which of several reasons to abort a run is the first one.
func TestFirstAbort(t *testing.T) {
	// The step of the goal that aborts the run is counted.
	for _, r := range []struct{ procs, want string }{
		{"p i: or([is 0 1023, p'0 0], [not(is 0 1023), load 1 1, add'0 0 1 2, p'0 2])", "frames"},
		{"p i: or([is 0 1023, build 1 f 0, build 2 f 1, q'0 2, p'0 0], [not(is 0 1023), load 1 1, add'0 0 1 2, p'0 2])\nq i: fail", "frames"},
		{"p i: or([is 0 1022, build 1 f 0, q'0 1, p'0 0], [not(is 0 1022), load 1 1, add'0 0 1 2, p'0 2])\nq i: [build 1 g 0 0, q'0 1]", "frames"},
		{"p i: or([is 0 1000, build 1 f 0, q'0 1, p'0 0], [not(is 0 1000), load 1 1, add'0 0 1 2, p'0 2])\nq i: [build 1 g 0 0, q'0 1]", "large"},
	} {
		p, in := programOf(t, r.procs), list(t, "0")
		id := p.procs[0].Id
		_, w := agree(t, r.procs, p, id, in, 100000)
		held(t, r.procs, told(nil, w.end), r.want)
		for near := -2; near <= 2; near++ {
			want := r.want
			if near < 0 {
				want = "fuel"
			}
			_, end, err := sem.Solve(p.x, p.procs, id, in, w.steps+near, 10)
			held(t, fmt.Sprint(r.procs, " ", near), err, nil)
			held(t, fmt.Sprint(r.procs, " ", near), told(nil, end), want)
		}
	}
}

// P11.1: which error is told, and that there is nothing beside it.
func TestErrors(t *testing.T) {
	p := compiled(t, lists+"pred two(list(T), T, int). mode two(in, in, in) is semidet. mode two(in, out, in) is nondet. two(L, X, 1) :- L = cons(X, _).\n"+structures[strings.Index(structures, "type t"):])
	good, deep, large := list(t, "nil")[0], chainOf(201), tree(4097)
	one := list(t, "cons(1, nil)")[0]
	for _, r := range []struct {
		call string
		in   []api.Data
		err  error
	}{
		{"append/3'0", []api.Data{good, good}, nil},
		{"append/3'3", []api.Data{good, good}, api.ErrNone},
		{"append/3'-1", []api.Data{good, good}, api.ErrNone},
		{"append/2'0", []api.Data{good, good}, api.ErrNone},
		{"appen/3'0", []api.Data{good, good}, api.ErrNone},
		{"add/3'0", []api.Data{number(1), number(2)}, api.ErrNone},
		{"lt/2'0", []api.Data{number(1), number(2)}, api.ErrNone},
		{"append/3'9", []api.Data{deep}, api.ErrNone},
		{"append/3'0", nil, api.ErrData},
		{"append/3'0", []api.Data{good}, api.ErrData},
		{"append/3'0", []api.Data{good, good, good}, api.ErrData},
		{"append/3'1", []api.Data{good, good}, api.ErrData},
		{"append/3'1", []api.Data{good}, nil},
		{"append/3'0", []api.Data{good, number(1)}, api.ErrData},
		{"append/3'0", []api.Data{number(1), good}, api.ErrData},
		{"append/3'0", []api.Data{good, made("none")}, api.ErrData},
		{"append/3'0", []api.Data{good, made("cons", number(1))}, api.ErrData},
		{"append/3'0", []api.Data{one, made("cons", made("a"), good)}, api.ErrData},
		{"append/3'0", []api.Data{one, one}, nil},
		{"append/3'0", []api.Data{deep, good}, api.ErrLarge},
		{"append/3'0", []api.Data{number(1), large}, api.ErrLarge},
		{"append/3'0", []api.Data{large}, api.ErrLarge},
		{"append/3'0", []api.Data{tree(4096), good}, api.ErrData},
		{"two/3'0", []api.Data{one, number(1), number(1)}, nil},
		{"two/3'0", []api.Data{one, good, number(1)}, api.ErrData},
		{"two/3'0", []api.Data{good, good, number(1)}, nil},
		{"two/3'0", []api.Data{good, good, good}, api.ErrData},
		{"two/3'1", []api.Data{one, number(1)}, nil},
		{"two/3'1", []api.Data{one, good}, api.ErrData},
		{"member/2'1", []api.Data{chainOf(200), good}, nil},
		{"member/2'1", []api.Data{tree(4096), good}, nil},
		{"member/2'1", []api.Data{tree(4097), good}, api.ErrLarge},
	} {
		for _, fuel := range []int{-1, 0, 100} {
			for _, most := range []int{-1, 0, 5} {
				what := fmt.Sprint(r.call, " of ", form(r.in), fuel, most)
				got, end, err := sem.Solve(p.x, p.procs, called(t, r.call), r.in, fuel, most)
				held(t, what, err, r.err)
				steps, raises, stepsEnd, err := sem.Steps(p.x, p.procs, called(t, r.call), r.in, fuel)
				held(t, what, err, r.err)
				if r.err != nil {
					held(t, what, []any{got, end, steps, raises, stepsEnd}, []any{[]api.Outcome(nil), 0, 0, 0, 0})
				}
			}
		}
	}
}
