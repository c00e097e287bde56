package modes_test

import (
	"fmt"
	"slices"
	"strings"
	"testing"

	"augur/api"
	"augur/modes"
)

// The document once more, in another form: goals become texts at once, what is ground is a list that is copied wherever it
// grows, and what occurs outside a goal is counted anew each time.

// sheet is what is noted while a body is scheduled.
type sheet struct {
	body
	looks int
	all   []int // how often each variable occurs in the body
	twins []int // of the new variables: which ones they replace
}

// every is a goal's variables, as often as they occur.
func every(f api.Flat) []int {
	var list []int
	switch f.Kind {
	case api.FSame:
		list = []int{f.X, f.Y}
	case api.FInt, api.FThrow, api.FTry:
		list = []int{f.X}
	case api.FCtor:
		list = append([]int{f.X}, f.Args...)
	case api.FCall:
		list = f.Args
	}
	list = slices.Clip(list)
	for _, g := range f.Goals {
		list = append(list, every(g)...)
	}
	return list
}

// times is how often each of the body's variables occurs in a goal.
func (w *sheet) times(f api.Flat) []int {
	counts := make([]int, w.Vars)
	for _, v := range every(f) {
		counts[v]++
	}
	return counts
}

// open is the variables of a part of a goal that are outside the goal and not ground, in increasing order.
func (w *sheet) open(part, whole api.Flat, ground []int) []int {
	var list []int
	inPart, inWhole := w.times(part), w.times(whole)
	for v := range w.Vars {
		outside := v < w.Pred.Arity || w.all[v] > inWhole[v]
		if outside && inPart[v] > 0 && !slices.Contains(ground, v) {
			list = append(list, v)
		}
	}
	return list
}

// rest is what a list yields, and what is ground behind it; false if it can't be scheduled.
func (w *sheet) rest(goals []api.Flat, ground []int) ([]string, []int, bool) {
	if len(goals) == 0 {
		return nil, ground, true
	}
	for i, f := range goals {
		if w.looks > modes.MaxLooks {
			return nil, nil, false
		}
		w.looks++
		had := len(w.twins)
		if made, more, ok := w.goal(f, ground); ok {
			others, after, ok := w.rest(slices.Concat(goals[:i], goals[i+1:]), slices.Concat(ground, more))
			return append(made, others...), after, ok
		}
		w.twins = w.twins[:had]
	}
	return nil, nil, false
}

// whole is the text of the whole of a list.
func whole(list []string) string {
	switch len(list) {
	case 0:
		return "true"
	case 1:
		return list[0]
	}
	return "[" + strings.Join(list, ", ") + "]"
}

// twin is a new variable in place of one.
func (w *sheet) twin(v int) int {
	w.twins = append(w.twins, v)
	return w.Vars + len(w.twins) - 1
}

// outputs are arguments, of which those that are out get a value, and the tests behind them.
func (w *sheet) outputs(args []int, in []bool, ground []int) (string, []string) {
	told, tests := "", []string(nil)
	for i, v := range args {
		isOut := in == nil || !in[i]
		further := slices.Contains(ground, v)
		for j, left := range args[:i] {
			further = further || left == v && (in == nil || !in[j])
		}
		if isOut && further {
			x := w.twin(v)
			tests = append(tests, fmt.Sprint("test ", x, " ", v))
			v = x
		}
		told += fmt.Sprint(" ", v)
	}
	return told, tests
}

// goal is what a goal yields, and what is ground further; false if it isn't ready.
func (w *sheet) goal(f api.Flat, ground []int) ([]string, []int, bool) {
	has := func(list ...int) bool {
		return !slices.ContainsFunc(list, func(v int) bool { return !slices.Contains(ground, v) })
	}
	switch f.Kind {
	case api.FTrue:
		return nil, nil, true
	case api.FFail:
		return []string{"fail"}, nil, true
	case api.FSame:
		told := fmt.Sprint("test ", f.X, " ", f.Y)
		if !has(f.Y) {
			told = fmt.Sprint("copy ", f.Y, " ", f.X)
		} else if !has(f.X) {
			told = fmt.Sprint("copy ", f.X, " ", f.Y)
		}
		return []string{told}, []int{f.X, f.Y}, has(f.X) || has(f.Y)
	case api.FInt:
		return []string{fmt.Sprint(map[bool]string{true: "is ", false: "load "}[has(f.X)], f.X, " ", f.Int)}, []int{f.X}, true
	case api.FCtor:
		if !has(f.X) {
			return []string{fmt.Sprint("build ", f.X, " ", f.Ctor.Name, row(f.Args))}, []int{f.X}, has(f.Args...)
		}
		args, tests := w.outputs(f.Args, nil, ground)
		return append([]string{fmt.Sprint("match ", f.X, " ", f.Ctor.Name, args)}, tests...), f.Args, true
	case api.FCall:
		return w.call(f, ground)
	case api.FThrow:
		return []string{fmt.Sprint("throw ", f.X)}, nil, has(f.X)
	case api.FNot:
		if len(w.open(f.Goals[0], f, ground)) > 0 {
			return nil, nil, false
		}
		made, _, ok := w.rest(listOf(f.Goals[0]), ground)
		return []string{"not(" + whole(made) + ")"}, nil, ok
	case api.FOr:
		var all []string
		for _, g := range f.Goals {
			made, _, ok := w.rest(listOf(g), ground)
			if !ok {
				return nil, nil, false
			}
			all = append(all, whole(made))
		}
		more, ok := w.agreed(f, ground)
		return []string{"or(" + strings.Join(all, ", ") + ")"}, more, ok
	}
	return w.try(f, ground)
}

func (w *sheet) call(f api.Flat, ground []int) ([]string, []int, bool) {
	at := slices.IndexFunc(w.x.Preds, func(p api.Pred) bool { return p.Key == f.Pred })
	for i, m := range w.x.Preds[at].Modes {
		ready := true
		for j, v := range f.Args {
			ready = ready && (!m.In[j] || slices.Contains(ground, v))
		}
		if ready {
			args, tests := w.outputs(f.Args, m.In, ground)
			return append([]string{fmt.Sprint(f.Pred.Name, "'", i, args)}, tests...), f.Args, true
		}
	}
	return nil, nil, false
}

// agreed is the open variables of each of a goal's goals; false if they are others in another one.
func (w *sheet) agreed(f api.Flat, ground []int) ([]int, bool) {
	var first []int
	for i, g := range f.Goals {
		open := w.open(g, f, ground)
		if i == 0 {
			first = open
		} else if form(open) != form(first) {
			return nil, false
		}
	}
	return first, true
}

func (w *sheet) try(f api.Flat, ground []int) ([]string, []int, bool) {
	x, isGround := f.X, slices.Contains(ground, f.X)
	alone := x >= w.Pred.Arity && w.all[x] == 1+w.times(f.Goals[1])[x]
	if !isGround && !alone {
		return nil, nil, false
	}
	first, _, ok := w.rest(listOf(f.Goals[0]), ground)
	if !ok {
		return nil, nil, false
	}
	second, _, ok := w.rest(listOf(f.Goals[1]), append(slices.Clone(ground), x))
	if !ok {
		return nil, nil, false
	}
	if isGround {
		x = w.twin(f.X)
		second = append([]string{fmt.Sprint("test ", x, " ", f.X)}, second...)
	}
	more, ok := w.agreed(f, append(slices.Clone(ground), f.X))
	return []string{fmt.Sprint("try ", x, " (", whole(first), ", ", whole(second), ")")}, more, ok
}

// outcome is what a body comes to in a mode: the text and types of its procedure, or its error; and how many looks it took.
type outcome struct {
	goal, types string
	err         error
	looks       int
}

// String tells an error by its text.
func (o outcome) String() string {
	return fmt.Sprintf("%s; %s; %v; %d looks", o.goal, o.types, o.err, o.looks)
}

// again is what the document says of a body in a mode.
func again(b body, mode int) outcome {
	at := slices.IndexFunc(b.x.Preds, func(p api.Pred) bool { return p.Key == b.Pred })
	var ground []int
	for v, in := range b.x.Preds[at].Modes[mode].In {
		if in {
			ground = append(ground, v)
		}
	}
	w := &sheet{body: b}
	w.all = w.times(b.Goal)
	made, after, ok := w.rest(listOf(b.Goal), ground)
	if w.looks > modes.MaxLooks {
		return outcome{"", "", api.ErrLarge, w.looks}
	}
	for v := range b.Pred.Arity {
		ok = ok && slices.Contains(after, v)
	}
	if !ok {
		return outcome{"", "", api.ErrModes, w.looks}
	}
	all := slices.Clone(b.list)
	for _, v := range w.twins {
		all = append(all, b.list[v])
	}
	return outcome{whole(made), typeTexts(all), nil, w.looks}
}

// tried is what a body comes to in a mode, in a number of looks.
func tried(t *testing.T, b body, mode, looks int) outcome {
	t.Helper()
	p, err := modes.Schedule(b.x, b.Body, b.list, mode)
	if err != nil {
		held(t, b.text, p, api.Proc{})
		return outcome{"", "", err, looks}
	}
	at := slices.IndexFunc(b.x.Preds, func(p api.Pred) bool { return p.Key == b.Pred })
	want := b.x.Preds[at].Modes[mode]
	held(t, b.text, p, api.Proc{Id: api.ProcId{Pred: b.Pred, Mode: mode}, In: want.In, Det: want.Det, Types: p.Types, Vars: len(p.Types), Goal: p.Goal})
	return outcome{text(p.Goal), typeTexts(p.Types), nil, looks}
}

// P8.1: bodies by the document once more, in each mode, also in other forms.
func TestAgain(t *testing.T) {
	counts, added := map[error]int{}, 0
	thrown(t, 1, 1500, 4, func(d dice, b body) {
		for round := range 3 {
			for mode := range b.modes() {
				want := again(b, mode)
				held(t, fmt.Sprint(b.text, mode, round), tried(t, b, mode, want.looks), want)
				counts[want.err]++
				if want.err == nil && len(strings.Fields(want.types)) > len(strings.Fields(typeTexts(b.list))) {
					added++
				}
			}
			b = d.other(b)
		}
	})
	if counts[nil] < 3000 || counts[api.ErrModes] < 9000 || counts[api.ErrLarge] < 30 || added < 1800 {
		t.Error(counts, added)
	}
}

// padded is a body with so many FTrues ahead of its list: each of them takes one look, and no other goal takes more or fewer.
func padded(b body, count int) body {
	goals := slices.Repeat([]api.Flat{{Kind: api.FTrue}}, count)
	b.Goal = api.Flat{Kind: api.FAnd, Goals: append(goals, listOf(b.Goal)...)}
	return b
}

// P8.1: each look counts: with FTrues such that it takes 4000, a body comes to the same, with one more to ErrLarge.
func TestLooksAgain(t *testing.T) {
	counts := map[error]int{}
	thrown(t, 2, 60, 6, func(d dice, b body) {
		for range 2 {
			for mode := range b.modes() {
				want := again(b, mode)
				counts[want.err]++
				room := modes.MaxLooks - want.looks
				if room < 0 {
					continue
				}
				held(t, b.text, tried(t, padded(b, room), mode, want.looks), want)
				held(t, b.text, tried(t, padded(b, room+1), mode, 0).err, api.ErrLarge)
			}
			b = d.other(b)
		}
	})
	if counts[nil] < 50 || counts[api.ErrModes] < 100 {
		t.Error(counts)
	}
}
