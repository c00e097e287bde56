package data_test

import (
	"fmt"
	"math"
	"slices"
	"strings"
	"testing"

	"augur/api"
	"augur/data"
	"augur/names"
	"augur/parse"
)

// number is an int, made is a constructor's.
func number(n int) api.Data { return api.Data{Int: n} }
func made(name string, args ...api.Data) api.Data {
	return api.Data{Ctor: true, Name: name, Args: args}
}

// chain is data of a depth, whose only argument is another chain down to an end.
func chain(depth int, end api.Data) api.Data {
	for range depth - 1 {
		end = made("s", end)
	}
	return end
}

// wide is a constructor of so many arguments.
func wide(args int) api.Data { return made("w", slices.Repeat([]api.Data{number(7)}, args)...) }

// tree is a constructor whose arguments are so many trees of a depth less by one.
func tree(depth, arity int) api.Data {
	if depth == 1 {
		return made("a")
	}
	return made("f", slices.Repeat([]api.Data{tree(depth-1, arity)}, arity)...)
}

// full is data of so many nodes, not deep, that have 8 arguments at most.
func full(nodes int) api.Data {
	if nodes == 1 {
		return made("a")
	}
	var args []api.Data
	rest := nodes - 1
	for left := min(8, rest); left > 0; left-- {
		size := rest / left
		args, rest = append(args, full(size)), rest-size
	}
	return made("f", args...)
}

// junk is what no int has a use for.
var junk = []api.Data{made("x"), wide(5000), chain(300, number(1))}

// strange is data with something in the fields that their kind has no use for.
func strange(d api.Data) api.Data { return strangeWith(d, junk) }

func strangeWith(d api.Data, junk []api.Data) api.Data {
	if !d.Ctor {
		d.Name, d.Args = "strange", junk
		return d
	}
	d.Int = -77
	d.Args = slices.Clone(d.Args)
	for i := range d.Args {
		d.Args[i] = strangeWith(d.Args[i], junk)
	}
	return d
}

// of is the data of a text.
func of(t *testing.T, text string) api.Data {
	t.Helper()
	term, err := parse.Term(text)
	if err != nil {
		t.Fatal(text, err)
	}
	return ofTerm(term)
}

func ofTerm(term api.Term) api.Data {
	switch term.Kind {
	case api.TInt:
		return number(term.Int)
	case api.TCtor:
		var args []api.Data
		for _, arg := range term.Args {
			args = append(args, ofTerm(arg))
		}
		return made(term.Name, args...)
	}
	panic("a variable")
}

// read is the index of a text.
func read(t *testing.T, text string) api.Index {
	t.Helper()
	items, err := parse.Source(text)
	if err != nil {
		t.Fatalf("%.300s isn't parsed: %v", text, err)
	}
	x, err := names.Resolve(items)
	if err != nil {
		t.Fatalf("%.300s isn't well named: %v", text, err)
	}
	return x
}

// form tells what is in a value, where nil and empty lists are the same.
func form(value any) string { return fmt.Sprintf("%+v", value) }

// held holds what was answered against what should be.
func held(t *testing.T, what string, got, want any) {
	t.Helper()
	if form(got) != form(want) {
		t.Errorf("%.600s: %.1000s, not %.1000s", what, form(got), form(want))
	}
}

// P10.1: how many nodes data have, and whether they are good, at the edges of both limits.
func TestGood(t *testing.T) {
	for _, r := range []struct {
		what  string
		d     api.Data
		nodes int
		good  bool
	}{
		{"int", number(5), 1, true},
		{"no data", api.Data{}, 1, true},
		{"constant", made("a"), 1, true},
		{"empty list", api.Data{Ctor: true, Name: "a", Args: []api.Data{}}, 1, true},
		{"no name", made(""), 1, true},
		{"long name", made(strings.Repeat("a", 1000)), 1, true},
		{"two", made("f", number(1)), 2, true},
		{"three", made("cons", number(1), made("nil")), 3, true},
		{"five", made("f", made("g", number(1)), made("g", made("a"))), 5, true},
		{"depth 199", chain(199, number(1)), 199, true},
		{"depth 200", chain(200, number(1)), 200, true},
		{"depth 201", chain(201, number(1)), 201, false},
		{"depth 200 of constructors", chain(200, made("z")), 200, true},
		{"depth 201 of constructors", chain(201, made("z")), 201, false},
		{"depth 200 on the left", made("f", chain(199, number(1)), number(1), number(2)), 202, true},
		{"depth 201 on the left", made("f", chain(200, number(1)), number(1), number(2)), 203, false},
		{"depth 200 between", made("f", number(1), chain(199, number(1)), number(2)), 202, true},
		{"depth 201 between", made("f", number(1), chain(200, number(1)), number(2)), 203, false},
		{"depth 200 on the right", made("f", number(1), number(2), chain(199, number(1))), 202, true},
		{"depth 201 on the right", made("f", number(1), number(2), chain(200, number(1))), 203, false},
		{"depth 4095", chain(4095, number(1)), 4095, false},
		{"depth 4097", chain(4097, number(1)), 4097, false},
		{"depth 4098", chain(4098, number(1)), 4097, false},
		{"4095 nodes", wide(4094), 4095, true},
		{"4096 nodes", wide(4095), 4096, true},
		{"4097 nodes", wide(4096), 4097, false},
		{"4098 nodes", wide(4097), 4097, false},
		{"10001 nodes", wide(10000), 4097, false},
		{"4096 nodes in two", made("f", wide(2047), wide(2046)), 4096, true},
		{"4097 nodes in two", made("f", wide(2047), wide(2047)), 4097, false},
		{"4098 nodes in two", made("f", wide(2048), wide(2047)), 4097, false},
		{"4096 nodes within", made("f", made("f", wide(4092)), made("a")), 4096, true},
		{"4097 nodes within", made("f", made("f", wide(4093)), made("a")), 4097, false},
		{"585 nodes", tree(4, 8), 585, true},
		{"4096 nodes of trees", full(4096), 4096, true},
		{"4097 nodes of trees", full(4097), 4097, false},
		{"1 + 2 + .. + 2048 nodes", tree(12, 2), 4095, true},
		{"1 + 2 + .. + 4096 nodes", tree(13, 2), 4097, false},
		{"both limits", made("f", chain(199, number(1)), wide(3895)), 4096, true},
	} {
		for _, d := range []api.Data{r.d, strange(r.d)} {
			if got := data.Nodes(d); got != r.nodes {
				t.Errorf("%s: %d nodes, not %d", r.what, got, r.nodes)
			}
			if data.Good(d) != r.good {
				t.Errorf("%s: good: %t", r.what, !r.good)
			}
		}
	}
}

// P10.1, P10.3: the order: each of these comes ahead of all behind it, and is equal to itself alone.
func TestCompare(t *testing.T) {
	a, b := made("a"), made("b")
	list := []api.Data{
		number(math.MinInt), number(math.MinInt + 1), number(-256), number(-2), number(-1), number(0), number(1), number(2), number(10),
		number(255), number(256), number(1 << 32), number(math.MaxInt - 1), number(math.MaxInt),
		// Names byte by byte, ahead of how many arguments there are.
		made(""), made("", number(0)), made("\x00"), made("\x00\x00"), made(" "), made("A"), made("Z"), made("Zz"), made("_"),
		a,
		// How many arguments ahead of what they are.
		made("a", number(math.MinInt)), made("a", number(-1)), made("a", number(0)), made("a", number(5)),
		made("a", a), made("a", made("a", number(1))), made("a", made("a", a)), made("a", made("a", number(0), number(0))), made("a", made("aa")), made("a", b),
		made("a", number(-9), number(9)), made("a", number(0), number(0)), made("a", number(0), number(1)), made("a", number(0), a), made("a", number(0), b),
		made("a", number(1), number(0)), made("a", a, number(0)), made("a", a, a), made("a", a, b), made("a", b, number(0)), made("a", b, a),
		made("a", number(0), number(0), number(0)), made("a", number(0), number(0), b), made("a", number(0), number(1), number(0)), made("a", b, b, b),
		made("a", slices.Repeat([]api.Data{number(0)}, 8)...), made("a", slices.Repeat([]api.Data{number(0)}, 9)...),
		made("a", slices.Repeat([]api.Data{number(0)}, 300)...),
		made("a\x00"), made("a\x00\xff"), made("aA"), made("aa"), made("aa", number(-5)), made("ab"), b, made("b", number(0)), made("b", b), made("ba"),
		made("z"), made("zz"), made("é"), made("\xff"), made("\xff", number(-1)), made("\xff\x00"),
	}
	for i, x := range list {
		for j, y := range list {
			want := 0
			if i < j {
				want = -1
			} else if i > j {
				want = 1
			}
			if got := data.Compare(x, y); got != want {
				t.Errorf("%+v and %+v: %d, not %d", x, y, got, want)
			}
			if got := data.Compare(strange(x), y); got != want {
				t.Errorf("%+v and %+v with strange fields: %d, not %d", x, y, got, want)
			}
		}
	}
}

// P10.1: data that are not good are compared, too.
func TestCompareLarge(t *testing.T) {
	for _, make := range []func(end api.Data) api.Data{
		func(end api.Data) api.Data { return chain(1000, end) },
		func(end api.Data) api.Data { return made("w", append(wide(9000).Args, end)...) },
		func(end api.Data) api.Data { return made(strings.Repeat("n", 5000), end) },
	} {
		a, b, c := make(number(1)), make(number(2)), make(made("a"))
		for i, x := range []api.Data{a, b, c} {
			for j, y := range []api.Data{a, b, c} {
				if got := data.Compare(x, y); got != max(-1, min(1, i-j)) {
					t.Errorf("%d and %d: %d", i, j, got)
				}
			}
		}
	}
}

// P10.1: data as text.
func TestText(t *testing.T) {
	for _, r := range []struct {
		d    api.Data
		text string
	}{
		{number(0), "0"},
		{number(-5), "-5"},
		{number(math.MinInt), "-9223372036854775808"},
		{number(math.MaxInt), "9223372036854775807"},
		{made("nil"), "nil"},
		{api.Data{Ctor: true, Name: "nil", Args: []api.Data{}}, "nil"},
		{made("cons", number(1), made("nil")), "cons(1, nil)"},
		{made("f", made("g", number(-1)), made("h", made("a"), made("b"))), "f(g(-1), h(a, b))"},
		{chain(200, number(3)), strings.Repeat("s(", 199) + "3" + strings.Repeat(")", 199)},
		{wide(4095), "w(" + strings.Repeat("7, ", 4094) + "7)"},
		// Names that no term has stand as they are.
		{made(""), ""},
		{made("", made("X"), made("")), "(X, )"},
		{made("int", made("é \n"), made(strings.Repeat("n", 40))), "int(é \n, " + strings.Repeat("n", 40) + ")"},
	} {
		for _, d := range []api.Data{r.d, strange(r.d)} {
			text, err := data.Text(d)
			held(t, r.text, err, nil)
			held(t, r.text, text, r.text)
		}
	}
	for what, d := range map[string]api.Data{"deep": chain(201, number(1)), "wide": wide(4096), "trees": full(4097)} {
		text, err := data.Text(d)
		held(t, what, err, api.ErrLarge)
		held(t, what, text, "")
	}
}

// P10.1: the data of a text.
func TestRead(t *testing.T) {
	for _, r := range []struct {
		text string
		d    api.Data
	}{
		{"0", number(0)},
		{"-5", number(-5)},
		{"-9223372036854775808", number(math.MinInt)},
		{"9223372036854775807", number(math.MaxInt)},
		{"nil", made("nil")},
		{"cons(1, nil)", made("cons", number(1), made("nil"))},
		{" f ( g(-1),h(a,\nb) ) % c", made("f", made("g", number(-1)), made("h", made("a"), made("b")))},
		{"aB_9(x)", made("aB_9", made("x"))},
		{strings.Repeat("n", 32), made(strings.Repeat("n", 32))},
		{"w(7, 7, 7, 7, 7, 7, 7, 7)", wide(8)},
		{strings.Repeat("s(", 63) + "1" + strings.Repeat(")", 63), chain(64, number(1))},
		{long(4096, "a"), full(4096)},
	} {
		d, err := data.Read(r.text)
		held(t, r.text, err, nil)
		held(t, r.text, d, r.d)
	}
}

// long is a text of so many nodes, where the last one is given.
func long(nodes int, last string) string {
	text := plain(full(nodes))
	at := strings.LastIndex(text, "a")
	return text[:at] + last + text[at+1:]
}

// plain is the shortest text of data.
func plain(d api.Data) string {
	if !d.Ctor {
		return fmt.Sprint(d.Int)
	}
	if len(d.Args) == 0 {
		return d.Name
	}
	var args []string
	for _, arg := range d.Args {
		args = append(args, plain(arg))
	}
	return d.Name + "(" + strings.Join(args, ",") + ")"
}

// P10.1: texts that have no data, and which error is the first.
func TestReadErrors(t *testing.T) {
	deep := func(depth int, end string) string {
		return strings.Repeat("s(", depth-1) + end + strings.Repeat(")", depth-1)
	}
	for _, r := range []struct {
		text string
		err  error
	}{
		// Layer 2's.
		{"", api.ErrSyntax},
		{"%", api.ErrSyntax},
		{"a.", api.ErrSyntax},
		{"a b", api.ErrSyntax},
		{"1 2", api.ErrSyntax},
		{"a()", api.ErrSyntax},
		{"f(1", api.ErrSyntax},
		{"f(1,)", api.ErrSyntax},
		{"f(int)", api.ErrSyntax},
		{"type", api.ErrSyntax},
		{"a = b", api.ErrSyntax},
		{"5(1)", api.ErrSyntax},
		{"é", api.ErrText},
		{"05", api.ErrText},
		{"9223372036854775808", api.ErrText},
		{strings.Repeat("n", 33), api.ErrText},
		{"w(1, 2, 3, 4, 5, 6, 7, 8, 9)", api.ErrLarge},
		{"a" + strings.Repeat(" ", 16384), api.ErrLarge},
		{deep(65, "1"), api.ErrNest},
		// Layer 2's ahead of a variable.
		{"f(X", api.ErrSyntax},
		{"X Y", api.ErrSyntax},
		{"f(X, int)", api.ErrSyntax},
		{"f(X) é", api.ErrText},
		{"X" + strings.Repeat(" ", 16384), api.ErrLarge},
		{"w(X, 2, 3, 4, 5, 6, 7, 8, 9)", api.ErrLarge},
		{deep(65, "X"), api.ErrNest},
		{"f(X, " + deep(64, "1") + ")", api.ErrNest},
		// A variable.
		{"X", api.ErrData},
		{"_", api.ErrData},
		{"cons(X, nil)", api.ErrData},
		{"cons(1, _)", api.ErrData},
		{"w(1, 2, 3, 4, 5, 6, 7, Nil)", api.ErrData},
		{"f(g(1, h(2, X)), 3)", api.ErrData},
		{deep(64, "X"), api.ErrData},
		// A variable ahead of too many nodes.
		{long(4096, "X"), api.ErrData},
		{long(4097, "X"), api.ErrData},
		{"f(X," + long(4097, "a") + ")", api.ErrData},
		// Too many nodes.
		{long(4097, "a"), api.ErrLarge},
		{long(4098, "1"), api.ErrLarge},
		{"f(" + long(4096, "1") + ")", api.ErrLarge},
		{"f(" + long(4000, "a") + "," + long(2000, "1") + ")", api.ErrLarge},
	} {
		d, err := data.Read(r.text)
		held(t, r.text, err, r.err)
		held(t, r.text, d, api.Data{})
	}
}

// The chapter's examples.
func TestExamples(t *testing.T) {
	x := read(t, "type list(T) = nil | cons(T, list(T)).")
	list := api.TypeExpr{Name: "list", Args: []api.TypeExpr{{Var: true, Name: "T"}}}
	one := made("cons", number(1), made("nil"))
	b, err := data.Encode(one)
	held(t, "encoding", err, nil)
	held(t, "encoding", b, []byte("\x01\x04cons\x02\x00\x01\x00\x00\x00\x00\x00\x00\x00\x01\x03nil\x00"))
	held(t, "types", data.Check(x, []api.TypeExpr{list, {Var: true, Name: "T"}}, []api.Data{one, made("nil")}), api.ErrData)
	all := data.Domain(x, api.Type{Kind: api.TyData, Name: "list", Args: []api.Type{{Kind: api.TyInt}}}, 2)
	held(t, "domain", all, []api.Data{made("nil"), made("cons", number(0), made("nil")), one, made("cons", number(2), made("nil"))})
	held(t, "domains", data.MaxDomain, 300)
}
