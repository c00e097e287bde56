package model_test

import (
	"fmt"
	"strconv"
	"strings"
	"testing"

	"augur/api"
	"augur/data"
	"augur/detism"
	"augur/model"
	"augur/names"
	"augur/parse"
)

func key(name string, arity int) api.Key { return api.Key{Name: name, Arity: arity} }

func number(n int) api.Data { return api.Data{Int: n} }
func made(name string, args ...api.Data) api.Data {
	return api.Data{Ctor: true, Name: name, Args: args}
}

// form tells what is in a value, where nil and empty lists are the same.
func form(value any) string { return fmt.Sprintf("%+v", value) }

// held holds what was answered against what should be.
func held(t *testing.T, what string, got, want any) {
	t.Helper()
	if form(got) != form(want) {
		t.Errorf("%.900s:\n%.900s, not\n%.900s", what, form(got), form(want))
	}
}

// source is the items of a text and their index, and the procedures, if it is compiled.
type source struct {
	text  string
	items []api.Item
	x     api.Index
	procs []api.Proc
}

// read is the source of a text that is well named; it needn't be compiled.
func read(t *testing.T, text string) source {
	t.Helper()
	items, err := parse.Source(text)
	if err != nil {
		t.Fatalf("%.1500s isn't parsed: %v", text, err)
	}
	x, err := names.Resolve(items)
	if err != nil {
		t.Fatalf("%.1500s isn't well named: %v", text, err)
	}
	return source{text: text, items: items, x: x}
}

// compiled is the source of a text that is compiled.
func compiled(t *testing.T, text string) source {
	t.Helper()
	s, err := compile(t, text)
	if err != nil {
		t.Fatalf("%.1500s isn't compiled: %v", text, err)
	}
	return s
}

// compile is the source of a text, if it is compiled.
func compile(t *testing.T, text string) (source, error) {
	t.Helper()
	items, err := parse.Source(text)
	if err != nil {
		t.Fatalf("%.1500s isn't parsed: %v", text, err)
	}
	x, procs, err := detism.Compile(items)
	return source{text, items, x, procs}, err
}

// solve is what is asked most: tuples and end as text.
func (s source) solve(t *testing.T, id api.ProcId, in []api.Data, fuel int) string {
	t.Helper()
	list, end, err := model.Solutions(s.items, s.x, id, in, fuel)
	if err != nil {
		t.Fatalf("%.1500s\n%v of %.900s: %v", s.text, id, form(in), err)
	}
	return told(list, end)
}

// list is the data of a text of several, with bars between.
func list(t *testing.T, text string) []api.Data {
	t.Helper()
	var all []api.Data
	for _, part := range split(text, " | ") {
		d, err := data.Read(part)
		if err != nil {
			t.Fatalf("%s: %v", part, err)
		}
		all = append(all, d)
	}
	return all
}

func split(text, mark string) []string {
	if text == "" {
		return nil
	}
	return strings.Split(text, mark)
}

// called is the id that a call such as "append/3'1" names.
func called(t *testing.T, call string) api.ProcId {
	t.Helper()
	name, rest, _ := strings.Cut(call, "/")
	arity, mode, _ := strings.Cut(rest, "'")
	n, err := strconv.Atoi(arity)
	m, err2 := strconv.Atoi(mode)
	if err != nil || err2 != nil {
		t.Fatal(call)
	}
	return api.ProcId{Pred: key(name, n), Mode: m}
}

// shown is a tuple as text: "true", or all arguments.
func shown(tuple []api.Data) string {
	var texts []string
	for _, d := range tuple {
		text, err := data.Text(d)
		if err != nil {
			return err.Error()
		}
		texts = append(texts, text)
	}
	if len(texts) == 0 {
		return "true"
	}
	return strings.Join(texts, ", ")
}

// told is tuples as text, or a word if the search was aborted, which comes with no tuples.
func told(list [][]api.Data, end int) string {
	var texts []string
	for _, tuple := range list {
		texts = append(texts, shown(tuple))
	}
	if word := words()[end]; end != model.Ended {
		texts = append(texts, word)
	}
	return strings.Join(texts, " ; ")
}

// words are how searches end that are aborted.
func words() map[int]string {
	return map[int]string{model.Fuel: "fuel", model.Large: "large", model.Stuck: "stuck", model.Raised: "raised"}
}

func inside(words []string) string {
	if len(words) == 0 {
		return ""
	}
	return "(" + strings.Join(words, ", ") + ")"
}
