package sem_test

import (
	"fmt"
	"slices"
	"strconv"
	"strings"
	"testing"

	"augur/api"
	"augur/data"
	"augur/detism"
	"augur/names"
	"augur/parse"
	"augur/sem"
)

func key(name string, arity int) api.Key { return api.Key{Name: name, Arity: arity} }

func number(n int) api.Data { return api.Data{Int: n} }
func made(name string, args ...api.Data) api.Data {
	return api.Data{Ctor: true, Name: name, Args: args}
}

func goal(kind int, goals ...api.Sched) api.Sched { return api.Sched{Kind: kind, Goals: goals} }

// form tells what is in a value, where nil and empty lists are the same.
func form(value any) string { return fmt.Sprintf("%+v", value) }

// held holds what was answered against what should be.
func held(t *testing.T, what string, got, want any) {
	t.Helper()
	if form(got) != form(want) {
		t.Errorf("%.900s:\n%.1500s, not\n%.1500s", what, form(got), form(want))
	}
}

// read is the index of a text.
func read(t *testing.T, text string) api.Index {
	t.Helper()
	items, err := parse.Source(text)
	if err != nil {
		t.Fatalf("%.900s isn't parsed: %v", text, err)
	}
	x, err := names.Resolve(items)
	if err != nil {
		t.Fatalf("%.900s isn't well named: %v", text, err)
	}
	return x
}

// program is an index and procedures.
type program struct {
	x     api.Index
	procs []api.Proc
}

// compiled is the program of a source.
func compiled(t *testing.T, text string) program {
	t.Helper()
	items, err := parse.Source(text)
	if err != nil {
		t.Fatalf("%.900s isn't parsed: %v", text, err)
	}
	x, procs, err := detism.Compile(items)
	if err != nil {
		t.Fatalf("%.900s isn't compiled: %v", text, err)
	}
	return program{x, procs}
}

// list is the data of a text of several, with bars between.
func list(t *testing.T, text string) []api.Data {
	t.Helper()
	var all []api.Data
	for _, part := range split(text, " | ") {
		d, err := data.Read(part)
		if err != nil {
			t.Fatalf("%s: %v", part, err)
		}
		all = append(all, d)
	}
	return all
}

func split(text, mark string) []string {
	if text == "" {
		return nil
	}
	return strings.Split(text, mark)
}

// called is the id that a call such as "append/3'1" names.
func called(t *testing.T, call string) api.ProcId {
	t.Helper()
	name, rest, _ := strings.Cut(call, "/")
	arity, mode, _ := strings.Cut(rest, "'")
	n, err := strconv.Atoi(arity)
	m, err2 := strconv.Atoi(mode)
	if err != nil || err2 != nil {
		t.Fatal(call)
	}
	return api.ProcId{Pred: key(name, n), Mode: m}
}

// shown is one outcome as text: "raise 2", "true", or the arguments that are out.
func shown(o api.Outcome) string {
	if o.Raised {
		if len(o.Out) > 0 {
			return form(o)
		}
		return fmt.Sprint("raise ", o.Code)
	}
	var texts []string
	for _, d := range o.Out {
		text, err := data.Text(d)
		if err != nil {
			return err.Error()
		}
		texts = append(texts, text)
	}
	if len(texts) == 0 && o.Code == 0 {
		return "true"
	}
	return strings.Join(texts, ", ")
}

// told is outcomes as text, with a word at the end if the run was aborted.
func told(list []api.Outcome, end int) string {
	var texts []string
	for _, o := range list {
		texts = append(texts, shown(o))
	}
	if end != sem.Ended {
		words := map[int]string{sem.Fuel: "fuel", sem.Large: "large", sem.Frames: "frames"}
		texts = append(texts, words[end])
	}
	return strings.Join(texts, " ; ")
}

// programOf is the program of procedures that a text tells, each on a line such as "p io: [copy 1 0, true]": its name, an i for
// each argument that is in and an o for each one that is out, and its goal. Lines of one name are the modes of a predicate, whose
// arguments may be anything.
func programOf(t *testing.T, text string) program {
	t.Helper()
	declared, modes := structures, map[api.Key]int{}
	var p program
	for _, line := range split(text, "\n") {
		head, body, ok := strings.Cut(line, ":")
		name, ways, _ := strings.Cut(strings.TrimSpace(head), " ")
		if !ok {
			t.Fatal(line)
		}
		pred := key(name, len(ways))
		proc := api.Proc{Id: api.ProcId{Pred: pred, Mode: modes[pred]}, Det: api.Nondet, Goal: goalOf(t, body)}
		var vars, words []string
		for i, way := range ways {
			proc.In = append(proc.In, way == 'i')
			vars = append(vars, fmt.Sprint("A", i))
			words = append(words, map[rune]string{'i': "in", 'o': "out"}[way])
		}
		if modes[pred] == 0 {
			declared += "pred " + name + inside(vars) + ".\n"
		}
		declared += "mode " + name + inside(words) + " is nondet.\n"
		modes[pred]++
		p.procs = append(p.procs, proc)
	}
	p.x = read(t, declared)
	return p
}

func inside(words []string) string {
	if len(words) == 0 {
		return ""
	}
	return "(" + strings.Join(words, ", ") + ")"
}

// structures are the types of the tables.
const structures = "type list(T) = nil | cons(T, list(T)).\ntype t = a | b | f | f(t) | g(t, t) | h(int) | h(int, t).\n"

// reader reads goals word by word.
type reader struct{ words []string }

// goalOf is the goal that a text tells.
func goalOf(t *testing.T, told string) api.Sched {
	t.Helper()
	for _, mark := range []string{"[", "]", "(", ")", ",", ";"} {
		told = strings.ReplaceAll(told, mark, " "+mark+" ")
	}
	r := &reader{append(strings.Fields(told), "", "", "")}
	s := r.goal()
	if r.words[0] != "" {
		t.Fatalf("%s: %q is left", told, r.words)
	}
	return s
}

func (r *reader) next() string {
	word := r.words[0]
	r.words = r.words[1:]
	return word
}

func (r *reader) number() int {
	n, err := strconv.Atoi(r.next())
	if err != nil {
		panic(err)
	}
	return n
}

// numbers is the numbers that follow.
func (r *reader) numbers() []int {
	var list []int
	for {
		if _, err := strconv.Atoi(r.words[0]); err != nil {
			return list
		}
		list = append(list, r.number())
	}
}

// goals are those up to a mark, with the opening mark ahead of them already read.
func (r *reader) goals(end string) []api.Sched {
	var list []api.Sched
	for r.words[0] != end {
		list = append(list, r.goal())
		if r.words[0] == "," {
			r.next()
		}
	}
	r.next()
	return list
}

func (r *reader) goal() api.Sched {
	word := r.next()
	kinds := []string{"", "true", "fail", "copy", "test", "load", "is", "build", "match", "", "[", "or", "not", "throw", "try", "switch"}
	s := api.Sched{Kind: slices.Index(kinds, word)}
	switch s.Kind {
	case api.STrue, api.SFail:
	case api.SCopy, api.STest:
		s.X, s.Y = r.number(), r.number()
	case api.SLoad, api.SIs:
		s.X, s.Int = r.number(), r.number()
	case api.SBuild, api.SMatch:
		s.X, s.Ctor.Name = r.number(), r.next()
		s.Args = r.numbers()
		s.Ctor.Arity = len(s.Args)
	case api.SAnd:
		s.Goals = r.goals("]")
	case api.SOr, api.SNot:
		r.next()
		s.Goals = r.goals(")")
	case api.SThrow:
		s.X = r.number()
	case api.STry:
		s.X = r.number()
		r.next()
		s.Goals = r.goals(")")
	case api.SSwitch:
		s.X = r.number()
		r.next()
		r.cases(&s)
	default:
		name, mode, _ := strings.Cut(word, "'")
		s.Kind, s.Args = api.SCall, r.numbers()
		s.Proc.Pred = key(name, len(s.Args))
		s.Proc.Mode, _ = strconv.Atoi(mode)
	}
	return s
}

// cases are those of a switch, up to its end.
func (r *reader) cases(s *api.Sched) {
	for r.words[0] != ")" {
		name, arity, _ := strings.Cut(strings.TrimSuffix(r.next(), ":"), "/")
		n, _ := strconv.Atoi(arity)
		s.Cases = append(s.Cases, key(name, n))
		s.Goals = append(s.Goals, r.goal())
		if r.words[0] == ";" {
			r.next()
		}
	}
	r.next()
}
