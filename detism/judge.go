package detism

import (
	"slices"

	"augur/api"
)

// chances are what a goal may do: fail, or have many solutions.
type chances struct{ fail, many bool }

// chancesOf is what may be where something is declared so.
func chancesOf(det int) chances {
	return chances{
		fail: det == api.Semidet || det == api.Nondet,
		many: det == api.Multi || det == api.Nondet,
	}
}

// det is how what may do this is declared.
func (c chances) det() int {
	switch {
	case c.fail && c.many:
		return api.Nondet
	case c.many:
		return api.Multi
	case c.fail:
		return api.Semidet
	}
	return api.Det
}

// or is what may be where one or the other may.
func (c chances) or(other chances) chances {
	return chances{fail: c.fail || other.fail, many: c.many || other.many}
}

// known is the variables of which the constructor is known.
type known map[int]api.Key

// learn notes the constructor of a variable; what it returns forgets it again, so a goal within needs no copy of what is known.
func (k known) learn(v int, c api.Key) (forget func()) {
	before, had := k[v]
	k[v] = c
	return func() {
		if had {
			k[v] = before
		} else {
			delete(k, v)
		}
	}
}

// judge infers what the goals of a procedure may do.
type judge struct {
	modes   map[api.Key][]api.Mode // of each predicate
	ctors   map[string][]api.Key   // of each type
	types   []api.Type             // of the variables
	known   known
	refused bool // a goal that must not have many solutions may have many
}

func newJudge(x api.Index, p api.Proc) *judge {
	j := &judge{modes: map[api.Key][]api.Mode{}, ctors: map[string][]api.Key{}, types: p.Types, known: known{}}
	for _, pred := range x.Preds {
		j.modes[pred.Key] = pred.Modes
	}
	for _, c := range x.Ctors {
		j.ctors[c.Type] = append(j.ctors[c.Type], c.Key)
	}
	return j
}

// goal is what a goal may do where this is known.
func (j *judge) goal(g api.Sched) chances {
	switch g.Kind {
	case api.SFail, api.STest, api.SIs:
		return chances{fail: true}
	case api.SMatch:
		return chances{fail: !j.matches(g)}
	case api.SCall:
		return chancesOf(j.declared(g.Proc))
	case api.SAnd:
		return j.list(g.Goals)
	case api.SOr:
		return j.or(g.Goals)
	case api.SSwitch:
		return j.cases(g)
	case api.SNot:
		j.single(g.Goals)
		return chances{fail: true}
	case api.STry:
		return chances{fail: j.single(g.Goals).fail}
	}
	return chances{}
}

// matches tells whether an SMatch can't fail.
func (j *judge) matches(g api.Sched) bool {
	c, ok := j.known[g.X]
	return ok && c == g.Ctor || len(j.ctorsOf(g.X)) == 1
}

// ctorsOf is the constructors of a variable's type.
func (j *judge) ctorsOf(v int) []api.Key {
	if v < 0 || v >= len(j.types) {
		return nil
	}
	return j.ctors[j.types[v].Name]
}

// declared is how a procedure's mode is declared.
func (j *judge) declared(id api.ProcId) int {
	list := j.modes[id.Pred]
	if id.Mode < 0 || id.Mode >= len(list) {
		return 0
	}
	return list[id.Mode].Det
}

func (j *judge) list(goals []api.Sched) chances {
	var all chances
	for _, g := range goals {
		all = all.or(j.goal(g))
		if g.Kind == api.SMatch {
			defer j.known.learn(g.X, g.Ctor)()
		}
	}
	return all
}

func (j *judge) or(goals []api.Sched) chances {
	all := chances{fail: true, many: true}
	for _, g := range goals {
		fail := j.goal(g).fail
		all.fail = all.fail && fail
	}
	return all
}

func (j *judge) cases(g api.Sched) chances {
	isNoCase := func(c api.Key) bool { return !slices.Contains(g.Cases, c) }
	all := chances{fail: slices.ContainsFunc(j.ctorsOf(g.X), isNoCase)}
	for i := range min(len(g.Cases), len(g.Goals)) {
		all = all.or(j.under(g.X, g.Cases[i], g.Goals[i]))
	}
	return all
}

// under is what a goal may do where a variable has a constructor.
func (j *judge) under(v int, c api.Key, g api.Sched) chances {
	defer j.known.learn(v, c)()
	return j.goal(g)
}

// single is what one of goals may do that must not have many solutions.
func (j *judge) single(goals []api.Sched) chances {
	var all chances
	for _, g := range goals {
		all = all.or(j.goal(g))
	}
	j.refused = j.refused || all.many
	return all
}
