package modes_test

import (
	"fmt"
	"maps"
	"slices"
	"strings"
	"testing"

	"augur/api"
	"augur/modes"
)

// What a list of flat goals and what a scheduled list says, whatever their order, is told by the same text.

// sorted is the texts of a list, in increasing order.
func sorted(list []string) string {
	slices.Sort(list)
	return "[" + strings.Join(list, ", ") + "]"
}

func sameText(x, y int) string { return fmt.Sprint("same ", min(x, y), " ", max(x, y)) }

// said is what the list of a goal says; FTrue says nothing.
func said(f api.Flat) string {
	var list []string
	for _, g := range listOf(f) {
		var within []string
		for _, part := range g.Goals {
			within = append(within, said(part))
		}
		parts := "(" + strings.Join(within, "; ") + ")"
		switch g.Kind {
		case api.FFail:
			list = append(list, "fail")
		case api.FSame:
			list = append(list, sameText(g.X, g.Y))
		case api.FInt:
			list = append(list, fmt.Sprint("int ", g.X, " ", g.Int))
		case api.FCtor:
			list = append(list, fmt.Sprint("ctor ", g.X, " ", g.Ctor, g.Args))
		case api.FCall:
			list = append(list, fmt.Sprint("call ", g.Pred, g.Args))
		case api.FThrow:
			list = append(list, fmt.Sprint("throw ", g.X))
		case api.FNot:
			list = append(list, "not"+parts)
		case api.FOr:
			list = append(list, "or"+parts)
		case api.FTry:
			list = append(list, fmt.Sprint("try ", g.X, parts))
		}
	}
	return sorted(list)
}

// rowOf is the list of a scheduled goal.
func rowOf(s api.Sched) []api.Sched {
	switch s.Kind {
	case api.SAnd:
		return s.Goals
	case api.STrue:
		return nil
	}
	return []api.Sched{s}
}

// restored is what a scheduled list says, where what stands behind a test takes the place of the new variable ahead of it.
func restored(row []api.Sched, vars int) string {
	var list []string
	for len(row) > 0 {
		s := row[0]
		row = row[1:]
		args := slices.Clone(s.Args)
		if s.Kind == api.SMatch || s.Kind == api.SCall {
			for i, v := range args {
				if v >= vars && len(row) > 0 && row[0].Kind == api.STest && row[0].X == v {
					args[i] = row[0].Y
					row = row[1:]
				}
			}
		}
		list = append(list, restoredGoal(s, args, vars))
	}
	return sorted(list)
}

func restoredGoal(s api.Sched, args []int, vars int) string {
	var within []string
	for i, part := range s.Goals {
		row := rowOf(part)
		if s.Kind == api.STry && s.X >= vars && i == 1 && len(row) > 0 && row[0].Kind == api.STest && row[0].X == s.X {
			s.X = row[0].Y
			row = row[1:]
		}
		within = append(within, restored(row, vars))
	}
	parts := "(" + strings.Join(within, "; ") + ")"
	switch s.Kind {
	case api.SFail:
		return "fail"
	case api.SCopy, api.STest:
		return sameText(s.X, s.Y)
	case api.SLoad, api.SIs:
		return fmt.Sprint("int ", s.X, " ", s.Int)
	case api.SBuild, api.SMatch:
		return fmt.Sprint("ctor ", s.X, " ", s.Ctor, args)
	case api.SCall:
		return fmt.Sprint("call ", s.Proc.Pred, args)
	case api.SThrow:
		return fmt.Sprint("throw ", s.X)
	case api.SNot:
		return "not" + parts
	case api.SOr:
		return "or" + parts
	case api.STry:
		return fmt.Sprint("try ", s.X, parts)
	}
	return "something else"
}

// scheduledBodies calls what to do with each procedure that is made of thrown bodies, also in other forms.
func scheduledBodies(t *testing.T, seed int64, count, goals int, look func(b body, p api.Proc)) {
	t.Helper()
	made := 0
	thrown(t, seed, count, goals, func(d dice, b body) {
		for range 3 {
			for mode := range b.modes() {
				if p, err := modes.Schedule(b.x, b.Body, b.list, mode); err == nil {
					look(b, p)
					made++
				}
			}
			b = d.other(b)
		}
	})
	if made < count {
		t.Error(made)
	}
}

// P8.2: each list has its goals, each once.
func TestPermutation(t *testing.T) {
	scheduledBodies(t, 11, 1200, 5, func(b body, p api.Proc) {
		held(t, b.text, restored(rowOf(p.Goal), b.Vars), said(b.Goal))
	})
}

// state is what has a value: surely is on every path, maybe on some.
type state struct{ surely, maybe map[int]bool }

func (s state) copy() state { return state{maps.Clone(s.surely), maps.Clone(s.maybe)} }

func (s state) gives(v int) error {
	if s.maybe[v] {
		return fmt.Errorf("%d is given a second value", v)
	}
	s.surely[v], s.maybe[v] = true, true
	return nil
}

func (s state) reads(list ...int) error {
	for _, v := range list {
		if !s.surely[v] {
			return fmt.Errorf("%d is read and has no value", v)
		}
	}
	return nil
}

// walk goes over a scheduled goal as a machine would.
func walk(x api.Index, g api.Sched, s state) error {
	switch g.Kind {
	case api.SCopy:
		return first(s.reads(g.Y), func() error { return s.gives(g.X) })
	case api.STest:
		return s.reads(g.X, g.Y)
	case api.SLoad:
		return s.gives(g.X)
	case api.SIs, api.SThrow:
		return s.reads(g.X)
	case api.SBuild:
		return first(s.reads(g.Args...), func() error { return s.gives(g.X) })
	case api.SMatch:
		return first(s.reads(g.X), func() error { return each(g.Args, s.gives) })
	case api.SCall:
		return walkCall(x, g, s)
	case api.SAnd:
		return each(g.Goals, func(part api.Sched) error { return walk(x, part, s) })
	case api.SNot:
		return walk(x, g.Goals[0], s.copy())
	case api.SOr, api.STry:
		return branch(x, g, s)
	}
	return nil
}

func first(err error, then func() error) error {
	if err != nil {
		return err
	}
	return then()
}

func each[T any](list []T, do func(T) error) error {
	for _, v := range list {
		if err := do(v); err != nil {
			return err
		}
	}
	return nil
}

// walkCall reads all inputs ahead of what the call gives.
func walkCall(x api.Index, g api.Sched, s state) error {
	at := slices.IndexFunc(x.Preds, func(p api.Pred) bool { return p.Key == g.Proc.Pred })
	in := x.Preds[at].Modes[g.Proc.Mode].In
	for _, isIn := range []bool{true, false} {
		for i, v := range g.Args {
			err := error(nil)
			if in[i] && isIn {
				err = s.reads(v)
			} else if !in[i] && !isIn {
				err = s.gives(v)
			}
			if err != nil {
				return err
			}
		}
	}
	return nil
}

// branch goes over each of a goal's goals by itself: what has a value behind all of them has one behind the goal. The second
// one of an STry begins where the first one began, as it runs if that raised.
func branch(x api.Index, g api.Sched, s state) error {
	var ends []state
	for i, part := range g.Goals {
		own := s.copy()
		if g.Kind == api.STry && i == 1 {
			if err := own.gives(g.X); err != nil {
				return err
			}
		}
		if err := walk(x, part, own); err != nil {
			return err
		}
		ends = append(ends, own)
	}
	for _, end := range ends {
		for v := range end.maybe {
			s.maybe[v] = true
		}
	}
	for v := range ends[0].surely {
		if !slices.ContainsFunc(ends, func(end state) bool { return !end.surely[v] }) {
			s.surely[v] = true
		}
	}
	return nil
}

// P8.3: what is read has a value on every path, nothing is given one twice, and the arguments have one at the end.
func TestGround(t *testing.T) {
	scheduledBodies(t, 12, 1200, 5, func(b body, p api.Proc) {
		s := state{map[int]bool{}, map[int]bool{}}
		for v, in := range p.In {
			if in {
				s.surely[v], s.maybe[v] = true, true
			}
		}
		if err := walk(b.x, p.Goal, s); err != nil {
			t.Fatalf("%s mode %d: %v in %s", b.text, p.Id.Mode, err, text(p.Goal))
		}
		for v := range p.In {
			held(t, b.text, s.reads(v), nil)
		}
	})
}

// search is a sheet by which any order of goals is tried, not the one of the document.
type search struct{ sheet }

// order tells whether there is an order of goals in which each is ready, behind which done holds for what is ground.
func (w *search) order(goals []api.Flat, ground []int, done func(ground []int) bool) bool {
	if len(goals) == 0 {
		return done(ground)
	}
	for i, f := range slices.Backward(goals) {
		if more, ok := w.ready(f, ground); ok && w.order(slices.Concat(goals[:i], goals[i+1:]), slices.Concat(ground, more), done) {
			return true
		}
	}
	return false
}

// any tells whether the list of a goal has an order, whatever is ground behind it.
func (w *search) any(f api.Flat, ground []int) bool {
	return w.order(listOf(f), ground, func([]int) bool { return true })
}

// ready is what is ground behind a goal, if it is ready, where a list within it may be in any order.
func (w *search) ready(f api.Flat, ground []int) ([]int, bool) {
	switch f.Kind {
	case api.FNot:
		return nil, len(w.open(f.Goals[0], f, ground)) == 0 && w.any(f.Goals[0], ground)
	case api.FOr:
		for _, g := range f.Goals {
			if !w.any(g, ground) {
				return nil, false
			}
		}
		return w.agreed(f, ground)
	case api.FTry:
		isGround := slices.Contains(ground, f.X)
		if !isGround && (f.X < w.Pred.Arity || w.all[f.X] != 1+w.times(f.Goals[1])[f.X]) {
			return nil, false
		}
		if !w.any(f.Goals[0], ground) {
			return nil, false
		}
		ground = append(slices.Clone(ground), f.X)
		if !w.any(f.Goals[1], ground) {
			return nil, false
		}
		return w.agreed(f, ground)
	}
	_, more, ok := w.goal(f, ground)
	return more, ok
}

// widest is how many goals the longest list of a goal has.
func widest(f api.Flat) int {
	most := len(listOf(f))
	for _, g := range f.Goals {
		most = max(most, widest(g))
	}
	return most
}

// P8.4: what can't be scheduled has no order in which each goal is ready.
func TestCompleteness(t *testing.T) {
	counts := map[error]int{}
	thrown(t, 13, 7000, 3, func(d dice, b body) {
		if widest(b.Goal) > 6 {
			return
		}
		b = d.other(b)
		if widest(b.Goal) > 7 {
			return
		}
		for mode := range b.modes() {
			_, err := modes.Schedule(b.x, b.Body, b.list, mode)
			counts[err]++
			w := &search{sheet{body: b}}
			w.all = w.times(b.Goal)
			at := slices.IndexFunc(b.x.Preds, func(p api.Pred) bool { return p.Key == b.Pred })
			var ground []int
			for v, in := range b.x.Preds[at].Modes[mode].In {
				if in {
					ground = append(ground, v)
				}
			}
			found := w.order(listOf(b.Goal), ground, func(ground []int) bool {
				for v := range b.Pred.Arity {
					if !slices.Contains(ground, v) {
						return false
					}
				}
				return true
			})
			if found != (err == nil) || err != nil && err != api.ErrModes {
				t.Errorf("%s mode %d: %v, an order: %t", b.text, mode, err, found)
			}
		}
	})
	if counts[nil] < 1000 || counts[api.ErrModes] < 4000 {
		t.Error(counts)
	}
}

// P8.4: a body can be scheduled with its goals in each order or in none, and the same variables get values.
func TestAnyOrder(t *testing.T) {
	counts := map[error]int{}
	thrown(t, 14, 800, 3, func(d dice, b body) {
		for mode := range b.modes() {
			_, err := modes.Schedule(b.x, b.Body, b.list, mode)
			for range 4 {
				other := b
				other.Goal = d.shuffled(b.Goal)
				_, otherErr := modes.Schedule(b.x, other.Body, b.list, mode)
				held(t, fmt.Sprint(b.text, mode), otherErr, err)
			}
			counts[err]++
		}
	})
	if counts[nil] < 300 || counts[api.ErrModes] < 1000 {
		t.Error(counts)
	}
}
