package modes

import (
	"iter"
	"maps"
	"slices"

	"augur/api"
)

// goal is a flat goal, and what its readiness hangs on besides what is ground. This is worked out once, as a goal may be
// looked at often.
type goal struct {
	api.Flat
	callee api.Pred  // of FCall
	lists  [][]*goal // of each of its goals
	outer  [][]int   // of each of its goals: the variables in it that are outside this goal, in increasing order
	own    bool      // of FTry: X occurs just here and in the second goal, and isn't an argument
}

// counts is how often variables occur.
type counts map[int]int

func (c counts) add(other counts) {
	for v, times := range other {
		c[v] += times
	}
}

// outline is what is to be known of a body to work out its goals.
type outline struct {
	arity int
	preds map[api.Key]api.Pred
	total counts // in the whole body
}

func newOutline(x api.Index, b api.Body) *outline {
	o := &outline{arity: b.Pred.Arity, preds: map[api.Key]api.Pred{}, total: counts{}}
	for _, p := range x.Preds {
		o.preds[p.Key] = p
	}
	o.count(b.Goal)
	return o
}

// count adds all that occurs in a goal to the total.
func (o *outline) count(f api.Flat) {
	for v := range occurrences(f) {
		o.total[v]++
	}
	for _, part := range f.Goals {
		o.count(part)
	}
}

// occurrences goes over the variables of a goal, as often as each occurs, without those of the goals within it.
func occurrences(f api.Flat) iter.Seq[int] {
	return func(yield func(int) bool) {
		if hasX(f.Kind) && !yield(f.X) || f.Kind == api.FSame && !yield(f.Y) {
			return
		}
		for _, v := range f.Args {
			if !yield(v) {
				return
			}
		}
	}
}

func hasX(kind int) bool {
	switch kind {
	case api.FSame, api.FInt, api.FCtor, api.FThrow, api.FTry:
		return true
	}
	return false
}

// list is the list of a goal.
func (o *outline) list(f api.Flat) []*goal {
	list, _ := o.counted(f)
	return list
}

// counted is the list of a goal, and how often each variable occurs in it.
func (o *outline) counted(f api.Flat) ([]*goal, counts) {
	goals := []api.Flat{f}
	if f.Kind == api.FAnd {
		goals = f.Goals
	}
	var list []*goal
	within := counts{}
	for _, part := range goals {
		list = append(list, o.goal(part, within))
	}
	return list, within
}

// goal works a goal out, and adds what occurs in it to what is around it.
func (o *outline) goal(f api.Flat, around counts) *goal {
	g := &goal{Flat: f, callee: o.preds[f.Pred]}
	here := counts{}
	for v := range occurrences(f) {
		here[v]++
	}
	var parts []counts
	for _, part := range f.Goals {
		list, within := o.counted(part)
		g.lists = append(g.lists, list)
		parts = append(parts, within)
		here.add(within)
	}
	for _, within := range parts {
		g.outer = append(g.outer, o.outside(within, here))
	}
	g.own = len(parts) == 2 && !o.isArgument(f.X) && o.total[f.X] == 1+parts[1][f.X]
	around.add(here)
	return g
}

func (o *outline) isArgument(v int) bool { return v < o.arity }

// outside is the variables of a part of a goal that are outside this goal, in increasing order.
func (o *outline) outside(part, whole counts) []int {
	var list []int
	for _, v := range slices.Sorted(maps.Keys(part)) {
		if o.isArgument(v) || o.total[v] > whole[v] {
			list = append(list, v)
		}
	}
	return list
}
