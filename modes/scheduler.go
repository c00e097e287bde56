package modes

import (
	"slices"

	"augur/api"
)

// scheduler schedules lists of a body. A goal that isn't ready, and a list that can't be scheduled, are answered with ErrModes.
// So are goals that no layer makes: they are never ready.
type scheduler struct {
	vars  int        // how many variables the body has
	types []api.Type // of these
	added []api.Type // of the new ones
	looks int
}

// fresh is a new variable that replaces another one.
func (s *scheduler) fresh(v int) int {
	var a api.Type
	if v >= 0 && v < len(s.types) {
		a = s.types[v]
		a.Args = copies(a.Args)
	}
	s.added = append(s.added, a)
	return s.vars + len(s.added) - 1
}

// list is what a list yields, where known gets what its goals give a value.
func (s *scheduler) list(goals []*goal, known ground) ([]api.Sched, error) {
	var row []api.Sched
	rest := slices.Clone(goals)
examine:
	for len(rest) > 0 {
		for i, f := range rest {
			made, err := s.look(f, known)
			if err == nil {
				row = append(row, made...)
				rest = slices.Delete(rest, i, i+1)
				continue examine
			}
			if err != api.ErrModes {
				return nil, err
			}
		}
		return nil, api.ErrModes
	}
	return row, nil
}

// look is what a goal yields, if it is ready; otherwise no variable is new.
func (s *scheduler) look(f *goal, known ground) ([]api.Sched, error) {
	s.looks++
	if s.looks > MaxLooks {
		return nil, api.ErrLarge
	}
	before := len(s.added)
	row, err := s.yield(f, known)
	if err != nil {
		s.added = s.added[:before]
		return nil, err
	}
	return row, nil
}

// yield is what a goal yields, if it is ready.
func (s *scheduler) yield(f *goal, known ground) ([]api.Sched, error) {
	switch f.Kind {
	case api.FTrue:
		return nil, nil
	case api.FFail:
		return []api.Sched{{Kind: api.SFail}}, nil
	case api.FSame:
		return same(f, known)
	case api.FInt:
		return number(f, known), nil
	case api.FCtor:
		return s.ctor(f, known)
	case api.FCall:
		return s.call(f, known)
	case api.FNot:
		return s.not(f, known)
	case api.FOr:
		return s.or(f, known)
	case api.FThrow:
		return throw(f, known)
	case api.FTry:
		return s.try(f, known)
	}
	return nil, api.ErrModes
}

func same(f *goal, known ground) ([]api.Sched, error) {
	x, y := f.X, f.Y
	if known.has(x) && known.has(y) {
		return []api.Sched{{Kind: api.STest, X: x, Y: y}}, nil
	}
	if known.has(x) {
		x, y = y, x
	}
	if !known.has(y) {
		return nil, api.ErrModes
	}
	known.add(x)
	return []api.Sched{{Kind: api.SCopy, X: x, Y: y}}, nil
}

func number(f *goal, known ground) []api.Sched {
	kind := api.SLoad
	if known.has(f.X) {
		kind = api.SIs
	}
	known.add(f.X)
	return []api.Sched{{Kind: kind, X: f.X, Int: f.Int}}
}

func (s *scheduler) ctor(f *goal, known ground) ([]api.Sched, error) {
	if known.has(f.X) {
		args, tests := s.receive(f.Args, make([]bool, len(f.Args)), known)
		return append([]api.Sched{{Kind: api.SMatch, X: f.X, Ctor: f.Ctor, Args: args}}, tests...), nil
	}
	if !known.hasAll(f.Args) {
		return nil, api.ErrModes
	}
	known.add(f.X)
	return []api.Sched{{Kind: api.SBuild, X: f.X, Ctor: f.Ctor, Args: slices.Clone(f.Args)}}, nil
}

func (s *scheduler) call(f *goal, known ground) ([]api.Sched, error) {
	mode := slices.IndexFunc(f.callee.Modes, func(m api.Mode) bool { return findsInputs(f.Args, m.In, known) })
	if mode < 0 {
		return nil, api.ErrModes
	}
	args, tests := s.receive(f.Args, f.callee.Modes[mode].In, known)
	id := api.ProcId{Pred: f.Pred, Mode: mode}
	return append([]api.Sched{{Kind: api.SCall, Proc: id, Args: args}}, tests...), nil
}

// findsInputs tells whether all arguments that are in have a value.
func findsInputs(args []int, in []bool, known ground) bool {
	if len(in) != len(args) {
		return false
	}
	for i, v := range args {
		if in[i] && !known.has(v) {
			return false
		}
	}
	return true
}

// receive is arguments of which those that aren't in get a value, and have one from then on: in place of one that has one
// already stands a new variable, for which there is a test.
func (s *scheduler) receive(args []int, in []bool, known ground) ([]int, []api.Sched) {
	var list []int
	var tests []api.Sched
	for i, v := range args {
		switch {
		case in[i]:
			list = append(list, v)
		case known.has(v):
			x := s.fresh(v)
			list = append(list, x)
			tests = append(tests, api.Sched{Kind: api.STest, X: x, Y: v})
		default:
			list = append(list, v)
			known.add(v)
		}
	}
	return list, tests
}

func throw(f *goal, known ground) ([]api.Sched, error) {
	if !known.has(f.X) {
		return nil, api.ErrModes
	}
	return []api.Sched{{Kind: api.SThrow, X: f.X}}, nil
}

func (s *scheduler) not(f *goal, known ground) ([]api.Sched, error) {
	if len(f.lists) != 1 || !known.hasAll(f.outer[0]) {
		return nil, api.ErrModes
	}
	row, err := s.list(f.lists[0], known.with())
	if err != nil {
		return nil, err
	}
	return []api.Sched{{Kind: api.SNot, Goals: []api.Sched{wholeOf(row)}}}, nil
}

func (s *scheduler) or(f *goal, known ground) ([]api.Sched, error) {
	rows, given, err := s.branches(f, known)
	if err != nil {
		return nil, err
	}
	known.add(given...)
	return []api.Sched{{Kind: api.SOr, Goals: wholes(rows)}}, nil
}

func (s *scheduler) try(f *goal, known ground) ([]api.Sched, error) {
	isKnown := known.has(f.X)
	if len(f.lists) != 2 || !isKnown && !f.own {
		return nil, api.ErrModes
	}
	// If X has no value it doesn't occur in the first goal, which may find it ground as well as the second one.
	rows, given, err := s.branches(f, known.with(f.X))
	if err != nil {
		return nil, err
	}
	known.add(given...)
	x := f.X
	if isKnown {
		x = s.fresh(f.X)
		rows[1] = append([]api.Sched{{Kind: api.STest, X: x, Y: f.X}}, rows[1]...)
	}
	return []api.Sched{{Kind: api.STry, X: x, Goals: wholes(rows)}}, nil
}

// branches is what each list of a goal yields by itself, and which variables outside the goal get a value, the same in each.
func (s *scheduler) branches(f *goal, known ground) ([][]api.Sched, []int, error) {
	var rows [][]api.Sched
	for _, list := range f.lists {
		row, err := s.list(list, known.with())
		if err != nil {
			return nil, nil, err
		}
		rows = append(rows, row)
	}
	var given []int
	for i, outer := range f.outer {
		missing := known.missing(outer)
		if i > 0 && !slices.Equal(missing, given) {
			return nil, nil, api.ErrModes
		}
		given = missing
	}
	return rows, given, nil
}

// wholes is the whole of each row.
func wholes(rows [][]api.Sched) []api.Sched {
	var list []api.Sched
	for _, row := range rows {
		list = append(list, wholeOf(row))
	}
	return list
}

// wholeOf is one goal that does what a row does.
func wholeOf(row []api.Sched) api.Sched {
	switch len(row) {
	case 0:
		return api.Sched{Kind: api.STrue}
	case 1:
		return row[0]
	}
	return api.Sched{Kind: api.SAnd, Goals: row}
}
