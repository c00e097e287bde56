package detism_test

import (
	"fmt"
	"slices"
	"strconv"
	"strings"
	"testing"

	"augur/api"
	"augur/parse"
	"augur/unify"
)

// numbers is numbers behind one another.
func numbers(list []int) string {
	var text strings.Builder
	for _, v := range list {
		fmt.Fprint(&text, " ", v)
	}
	return text.String()
}

// texts are goals as texts.
func texts(list []api.Sched) string {
	var all []string
	for _, s := range list {
		all = append(all, text(s))
	}
	return strings.Join(all, ", ")
}

// text is a goal as text. One that has something in a field that its kind has no use for is told whole.
func text(s api.Sched) string {
	told, own := told(s)
	if form(s) != form(own) {
		return form(s)
	}
	return told
}

// told is a goal as text, and what of it the text tells.
func told(s api.Sched) (string, api.Sched) {
	k, within := s.Kind, s.Goals
	switch k {
	case api.STrue:
		return "true", api.Sched{Kind: k}
	case api.SFail:
		return "fail", api.Sched{Kind: k}
	case api.SCopy, api.STest:
		return fmt.Sprint(map[int]string{api.SCopy: "copy ", api.STest: "test "}[k], s.X, " ", s.Y), api.Sched{Kind: k, X: s.X, Y: s.Y}
	case api.SLoad, api.SIs:
		return fmt.Sprint(map[int]string{api.SLoad: "load ", api.SIs: "is "}[k], s.X, " ", s.Int), api.Sched{Kind: k, X: s.X, Int: s.Int}
	case api.SBuild, api.SMatch:
		word := map[int]string{api.SBuild: "build ", api.SMatch: "match "}[k]
		return fmt.Sprint(word, s.X, " ", s.Ctor.Name, numbers(s.Args)), api.Sched{Kind: k, X: s.X, Ctor: key(s.Ctor.Name, len(s.Args)), Args: s.Args}
	case api.SCall:
		id := api.ProcId{Pred: key(s.Proc.Pred.Name, len(s.Args)), Mode: s.Proc.Mode}
		return fmt.Sprint(id.Pred.Name, "'", id.Mode, numbers(s.Args)), api.Sched{Kind: k, Proc: id, Args: s.Args}
	case api.SAnd:
		return "[" + texts(within) + "]", api.Sched{Kind: k, Goals: within}
	case api.SOr:
		return "or(" + texts(within) + ")", api.Sched{Kind: k, Goals: within}
	case api.SNot:
		return "not(" + texts(within) + ")", api.Sched{Kind: k, Goals: within}
	case api.SThrow:
		return fmt.Sprint("throw ", s.X), api.Sched{Kind: k, X: s.X}
	case api.STry:
		return fmt.Sprint("try ", s.X, " (", texts(within), ")"), api.Sched{Kind: k, X: s.X, Goals: within}
	case api.SSwitch:
		var cases []string
		for i := range min(len(s.Cases), len(within)) {
			cases = append(cases, fmt.Sprint(s.Cases[i].Name, "/", s.Cases[i].Arity, ": ", text(within[i])))
		}
		n := len(cases)
		return fmt.Sprint("switch ", s.X, " (", strings.Join(cases, "; "), ")"), api.Sched{Kind: k, X: s.X, Cases: s.Cases[:n], Goals: within[:n]}
	}
	return "", api.Sched{}
}

// reader reads goals as text tells them, word by word.
type reader struct{ words []string }

// goalOf is the goal that a text tells.
func goalOf(t *testing.T, told string) api.Sched {
	t.Helper()
	for _, mark := range []string{"[", "]", "(", ")", ",", ";"} {
		told = strings.ReplaceAll(told, mark, " "+mark+" ")
	}
	r := &reader{append(strings.Fields(told), "", "", "")}
	s := r.goal()
	if r.words[0] != "" {
		t.Fatalf("%s: %q is left", told, r.words)
	}
	return s
}

func (r *reader) next() string {
	word := r.words[0]
	r.words = r.words[1:]
	return word
}

func (r *reader) number() int {
	n, err := strconv.Atoi(r.next())
	if err != nil {
		panic(err)
	}
	return n
}

// list is the numbers that follow.
func (r *reader) list() []int {
	var list []int
	for {
		if _, err := strconv.Atoi(r.words[0]); err != nil {
			return list
		}
		list = append(list, r.number())
	}
}

// goals are those up to a mark, with the opening mark ahead of them already read.
func (r *reader) goals(end string) []api.Sched {
	var list []api.Sched
	for r.words[0] != end {
		list = append(list, r.goal())
		if r.words[0] == "," {
			r.next()
		}
	}
	r.next()
	return list
}

// kindOf is the kind of a word.
func kindOf(word string) int {
	list := []string{"", "true", "fail", "copy", "test", "load", "is", "build", "match", "", "[", "or", "not", "throw", "try", "switch"}
	return slices.Index(list, word)
}

func (r *reader) goal() api.Sched {
	word := r.next()
	s := api.Sched{Kind: kindOf(word)}
	switch s.Kind {
	case api.STrue, api.SFail:
	case api.SCopy, api.STest:
		s.X, s.Y = r.number(), r.number()
	case api.SLoad, api.SIs:
		s.X, s.Int = r.number(), r.number()
	case api.SBuild, api.SMatch:
		s.X, s.Ctor.Name = r.number(), r.next()
		s.Args = r.list()
		s.Ctor.Arity = len(s.Args)
	case api.SAnd:
		s.Goals = r.goals("]")
	case api.SOr, api.SNot:
		r.next()
		s.Goals = r.goals(")")
	case api.SThrow:
		s.X = r.number()
	case api.STry:
		s.X = r.number()
		r.next()
		s.Goals = r.goals(")")
	case api.SSwitch:
		s.X = r.number()
		r.next()
		r.cases(&s)
	default:
		name, mode, _ := strings.Cut(word, "'")
		s.Kind, s.Args = api.SCall, r.list()
		s.Proc.Pred = key(name, len(s.Args))
		s.Proc.Mode, _ = strconv.Atoi(mode)
	}
	return s
}

// cases are those of a switch, up to its end.
func (r *reader) cases(s *api.Sched) {
	for r.words[0] != ")" {
		name, arity, _ := strings.Cut(strings.TrimSuffix(r.next(), ":"), "/")
		n, _ := strconv.Atoi(arity)
		s.Cases = append(s.Cases, key(name, n))
		s.Goals = append(s.Goals, r.goal())
		if r.words[0] == ";" {
			r.next()
		}
	}
	r.next()
}

// typesOf are the types of variables, as words with blanks between.
func typesOf(t *testing.T, told string) []api.Type {
	t.Helper()
	var list []api.Type
	for _, word := range strings.Fields(told) {
		declared, err := parse.Type(word)
		if err != nil {
			t.Fatalf("%s: %v", word, err)
		}
		list = append(list, unify.Instance(declared, nil))
	}
	return list
}

// A goal that a text tells is told by that text again.
func TestTexts(t *testing.T) {
	for _, told := range []string{
		"true", "fail", "copy 1 2", "test 1 2", "load 1 -5", "is 0 7", "build 1 nil", "build 1 cons 3 4", "match 0 g 1 1", "once'0", "way'3 4 5", "[]", "[true, fail]",
		"or()", "or(fail)", "or([match 0 a, once'0], match 0 b)", "not(true)", "throw 3", "try 4 (once'0, [load 1 2, throw 1])",
		"switch 0 ()", "switch 0 (a/0: match 0 a; f/1: [match 0 f 1, switch 1 (a/0: true; b/0: or(true, true))])",
	} {
		held(t, told, text(goalOf(t, told)), told)
	}
}
