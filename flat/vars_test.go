package flat_test

import (
	"math/rand"
	"slices"
	"sync"
	"testing"

	"augur/api"
	"augur/flat"
)

// P5.1: the variables of each kind of goal, in their order, each once.
func TestVars(t *testing.T) {
	for _, r := range []struct {
		goal api.Flat
		vars []int
	}{
		{yes(), nil},
		{no(), nil},
		{same(3, 1), []int{3, 1}},
		{same(2, 2), []int{2}},
		{same(0, 0), []int{0}},
		{number(4, 9), []int{4}},
		{ctor(5, "a"), []int{5}},
		{ctor(5, "f", 7, 6, 7, 5), []int{5, 7, 6}},
		{call("q"), nil},
		{call("q", 2, 0, 2, 1), []int{2, 0, 1}},
		{throws(8), []int{8}},
		{and(), nil},
		{or(), nil},
		{and(call("q", 3), same(1, 3), number(0, 2)), []int{3, 1, 0}},
		{or(call("q", 3), yes(), call("q", 3, 2)), []int{3, 2}},
		{not(call("q", 4, 1)), []int{4, 1}},
		{try(6, call("q", 2), call("q", 6, 5)), []int{6, 2, 5}},
		{and(try(6, not(throws(7)), or(number(3, 1), no())), ctor(7, "f", 9), call("q", 0, 6)), []int{6, 7, 3, 9, 0}},
		{api.Flat{}, nil},
		// Fields that a kind has no use for count as the document lists them: X and Y by kind, Args and Goals of any.
		{api.Flat{Kind: api.FTrue, X: 1, Y: 2}, nil},
		{api.Flat{Kind: api.FFail, X: 1, Y: 2}, nil},
		{api.Flat{Kind: api.FInt, X: 1, Y: 2}, []int{1}},
		{api.Flat{Kind: api.FCtor, X: 1, Y: 2, Args: []int{3}}, []int{1, 3}},
		{api.Flat{Kind: api.FCall, X: 1, Y: 2, Args: []int{3}}, []int{3}},
		{api.Flat{Kind: api.FAnd, X: 1, Y: 2, Goals: []api.Flat{same(4, 5)}}, []int{4, 5}},
		{api.Flat{Kind: api.FOr, X: 1, Y: 2, Goals: []api.Flat{same(4, 5)}}, []int{4, 5}},
		{api.Flat{Kind: api.FNot, X: 1, Y: 2, Goals: []api.Flat{same(4, 5)}}, []int{4, 5}},
		{api.Flat{Kind: api.FThrow, X: 1, Y: 2}, []int{1}},
		{api.Flat{Kind: api.FTry, X: 1, Y: 2, Goals: []api.Flat{throws(3), throws(0)}}, []int{1, 3, 0}},
		{api.Flat{Kind: api.FCall, Args: []int{-1, 1 << 40, -1}}, []int{-1, 1 << 40}},
	} {
		held(t, form(r.goal), slices.Collect(flat.Vars(r.goal)), r.vars)
	}
}

// P5.1: the iterator is used several times, stopped anywhere, and within itself.
func TestVarsAgain(t *testing.T) {
	goal := and(call("q", 4, 2), ctor(2, "f", 9), throws(0))
	want := []int{4, 2, 9, 0}
	vars := flat.Vars(goal)
	for stop := range len(want) + 1 {
		var got []int
		for v := range vars {
			if len(got) == stop {
				break
			}
			got = append(got, v)
		}
		held(t, "stopped", got, want[:stop])
	}
	var pairs, wantPairs [][2]int
	for v := range vars {
		for w := range vars {
			pairs = append(pairs, [2]int{v, w})
		}
	}
	for _, v := range want {
		for _, w := range want {
			wantPairs = append(wantPairs, [2]int{v, w})
		}
	}
	held(t, "within itself", pairs, wantPairs)
	for range flat.Vars(yes()) {
		t.Error("a variable of FTrue")
	}
}

// P5.1, rule 8: the variables are those that were there when Vars was called.
func TestVarsOfThen(t *testing.T) {
	args := []int{4, 2}
	goals := []api.Flat{{Kind: api.FCall, Args: args}, throws(1)}
	vars := flat.Vars(api.Flat{Kind: api.FAnd, Goals: goals})
	args[0], goals[1] = 7, same(8, 9)
	held(t, "changed ahead of the first", slices.Collect(vars), []int{4, 2, 1})
	var got []int
	for v := range vars {
		got = append(got, v)
		args[1], goals[0].Args = 6, nil
	}
	held(t, "changed on the way", got, []int{4, 2, 1})
	held(t, "changed", slices.Collect(flat.Vars(api.Flat{Kind: api.FAnd, Goals: goals})), []int{8, 9})
}

// P5.1: several go over the same variables at a time.
func TestVarsBeside(t *testing.T) {
	goal := and(call("q", 4, 2), ctor(2, "f", 9), throws(0))
	vars := flat.Vars(goal)
	var all sync.WaitGroup
	for range 8 {
		all.Go(func() {
			for range 100 {
				held(t, "beside", slices.Collect(vars), []int{4, 2, 9, 0})
			}
		})
	}
	all.Wait()
}

// P5.1: for thrown bodies, the variables are those that a plain walk finds.
func TestVarsOfBodies(t *testing.T) {
	thrown(t, 5, 300, func(_ dice, items []api.Item, x api.Index, arity int) {
		b, err := flat.Flatten(items, x, key("p", arity))
		if err != nil {
			return
		}
		var plain []int
		note := func(list ...int) {
			for _, v := range list {
				if !slices.Contains(plain, v) {
					plain = append(plain, v)
				}
			}
		}
		rest := []api.Flat{b.Goal}
		for len(rest) > 0 {
			f := rest[0]
			rest = append(slices.Clone(f.Goals), rest[1:]...)
			switch f.Kind {
			case api.FSame:
				note(f.X, f.Y)
			case api.FInt, api.FThrow, api.FTry:
				note(f.X)
			case api.FCtor:
				note(append([]int{f.X}, f.Args...)...)
			case api.FCall:
				note(f.Args...)
			}
		}
		held(t, form(b.Goal), slices.Collect(flat.Vars(b.Goal)), plain)
	})
}

// P5.1: goals are equal, or differ in a field.
func TestSame(t *testing.T) {
	base := api.Flat{Kind: api.FCtor, X: 1, Y: 2, Int: 3, Ctor: key("a", 4), Pred: key("b", 5), Args: []int{6, 7}, Goals: []api.Flat{same(8, 9), call("q", 1)}}
	list := []api.Flat{base, {}}
	for _, change := range []func(f *api.Flat){
		func(f *api.Flat) { f.Kind = api.FCall },
		func(f *api.Flat) { f.X = 2 },
		func(f *api.Flat) { f.Y = 1 },
		func(f *api.Flat) { f.X, f.Y = 2, 1 },
		func(f *api.Flat) { f.Int = -3 },
		func(f *api.Flat) { f.Ctor.Name = "b" },
		func(f *api.Flat) { f.Ctor.Arity = 5 },
		func(f *api.Flat) { f.Pred.Name = "a" },
		func(f *api.Flat) { f.Pred.Arity = 4 },
		func(f *api.Flat) { f.Ctor, f.Pred = f.Pred, f.Ctor },
		func(f *api.Flat) { f.Args = nil },
		func(f *api.Flat) { f.Args = []int{6} },
		func(f *api.Flat) { f.Args = []int{7, 6} },
		func(f *api.Flat) { f.Args = []int{6, 7, 0} },
		func(f *api.Flat) { f.Goals = nil },
		func(f *api.Flat) { f.Goals = f.Goals[:1] },
		func(f *api.Flat) { f.Goals = []api.Flat{f.Goals[1], f.Goals[0]} },
		func(f *api.Flat) { f.Goals = []api.Flat{same(8, 9), call("q", 2)} },
		func(f *api.Flat) { f.Goals = []api.Flat{same(9, 8), call("q", 1)} },
		func(f *api.Flat) { f.Goals = []api.Flat{same(8, 9), call("q", 1), yes()} },
		func(f *api.Flat) { f.Goals = []api.Flat{same(8, 9), not(call("q", 1))} },
	} {
		other := base
		change(&other)
		list = append(list, other)
	}
	for i, a := range list {
		for j, b := range list {
			if flat.Same(a, b) != (i == j) {
				t.Errorf("%+v and %+v: %t", a, b, i != j)
			}
		}
	}
}

// P5.1, rule 4: nil and empty lists mean the same.
func TestSameEmpty(t *testing.T) {
	for _, args := range [][]int{nil, {}, make([]int, 0, 3)} {
		for _, goals := range [][]api.Flat{nil, {}, make([]api.Flat, 0, 3)} {
			inner := api.Flat{Kind: api.FAnd, Args: args, Goals: goals}
			if a, b := and(), inner; !flat.Same(a, b) || !flat.Same(b, a) || !flat.Same(not(a), not(b)) {
				t.Errorf("%#v and %#v differ", a, b)
			}
		}
	}
}

// P5.1: thrown bodies are equal if their forms are.
func TestSameBodies(t *testing.T) {
	var list []api.Flat
	thrown(t, 6, 40, func(_ dice, items []api.Item, x api.Index, arity int) {
		b, err := flat.Flatten(items, x, key("p", arity))
		if err == nil {
			list = append(list, b.Goal, everything(b.Goal))
		}
	})
	d := dice{rand.New(rand.NewSource(7))}
	for at := range list {
		list = append(list, spoilt(d, everything(list[at])))
	}
	var forms []string
	for _, a := range list {
		forms = append(forms, form(a))
	}
	equal := 0
	for i, a := range list {
		for j, b := range list {
			if flat.Same(a, b) != (forms[i] == forms[j]) {
				t.Fatalf("%+v\n%+v\n%t", a, b, flat.Same(a, b))
			}
			if flat.Same(a, b) {
				equal++
			}
		}
	}
	if equal == len(list) || equal > len(list)*len(list)/2 {
		t.Errorf("%d of %d goals squared are equal", equal, len(list))
	}
}

// spoilt is a goal with a small change somewhere.
func spoilt(d dice, f api.Flat) api.Flat {
	if len(f.Goals) > 0 && d.Intn(4) > 0 {
		at := d.Intn(len(f.Goals))
		f.Goals[at] = spoilt(d, f.Goals[at])
		return f
	}
	switch d.Intn(5) {
	case 0:
		f.X++
	case 1:
		f.Kind = f.Kind%11 + 1
	case 2:
		f.Args = append(f.Args, 0)
	case 3:
		f.Goals = append(f.Goals, yes())
	default:
		f.Ctor.Name += "x"
	}
	return f
}
