package sem

import (
	"augur/api"
	"augur/detism"
)

// next is what a run does next; nil: it is at its end. It is returned instead of being called, so that a long run isn't a deep one.
type next func() next

// solution is what a run does next with the values of a goal's solution.
type solution func(v *values) next

// raised is a number that a run panics with.
type raised int

// broken is how a run ends that is aborted; it panics with it.
type broken int

// run is the search for the solutions of a call. Where it may go on are closures, with the values of that place.
type run struct {
	procs    []api.Proc
	known    map[api.ProcId]api.Proc // so that a procedure that is called often is searched for once
	fuel     int
	steps    int
	raises   int
	choices  []choice // where it goes on when something fails, the last one first
	guards   []guard  // where it goes on when something is raised, the last one first
	end      int
	uncaught bool // code was raised, and ended it
	code     int
}

// choice is where a run goes on when something fails.
type choice struct {
	next   next
	guards int // how many of the guards are those of this place
}

// guard is where a run goes on with a raised number.
type guard func(code int) next

func newRun(procs []api.Proc, fuel int) *run {
	return &run{procs: procs, known: map[api.ProcId]api.Proc{}, fuel: min(max(fuel, 0), MaxSteps), end: Ended}
}

// search goes over a procedure's solutions, up to one for which found is false.
func (r *run) search(p api.Proc, in []api.Data, found func(*values) bool) {
	more := func(v *values) next {
		if !found(v) {
			return nil
		}
		return r.fail()
	}
	do := func() next { return body{r, 1}.goal(p.Goal, inputs(p, in), more) }
	for do != nil {
		do = r.stretch(do)
	}
}

// stretch goes on up to the end, or until something is raised, and returns where it goes on then.
func (r *run) stretch(do next) (rest next) {
	defer func() {
		switch why := recover().(type) {
		case nil:
		case raised:
			rest = r.caught(int(why))
		case broken:
			r.end = int(why)
		default:
			panic(why)
		}
	}()
	for do != nil {
		do = do()
	}
	return nil
}

// caught is where a run goes on with a raised number.
func (r *run) caught(code int) next {
	if len(r.guards) == 0 {
		r.uncaught, r.code = true, code
		return nil
	}
	last := r.guards[len(r.guards)-1]
	return func() next { return last(code) }
}

// raise raises a number.
func (r *run) raise(code int) {
	r.raises++
	panic(raised(code))
}

// step is the entry of a goal.
func (r *run) step() {
	if r.steps == r.fuel {
		panic(broken(Fuel))
	}
	r.steps++
}

// fail is where a run goes on when something fails.
func (r *run) fail() next {
	if len(r.choices) == 0 {
		return nil
	}
	last := len(r.choices) - 1
	c := r.choices[last]
	r.cut(mark{last, c.guards})
	return c.next
}

// choose adds a choice.
func (r *run) choose(do next) {
	r.choices = append(r.choices, choice{do, len(r.guards)})
}

// mark is how many choices and guards there are at a place.
type mark struct{ choices, guards int }

func (r *run) mark() mark { return mark{len(r.choices), len(r.guards)} }

// cut removes the choices and guards that were added since a mark.
func (r *run) cut(m mark) {
	r.choices, r.guards = r.choices[:m.choices], r.guards[:m.guards]
}

// proc is the procedure with an id; false if there is none.
func (r *run) proc(id api.ProcId) (api.Proc, bool) {
	if p, ok := r.known[id]; ok {
		return p, true
	}
	p, ok := detism.Find(r.procs, id)
	if ok {
		r.known[id] = p
	}
	return p, ok
}
