package data_test

import (
	"fmt"
	"math"
	"slices"
	"strings"
	"testing"

	"augur/api"
	"augur/data"
	"augur/parse"
	"augur/unify"
)

// typ is a type as it is declared, whose variables are rigid.
func typ(t *testing.T, text string) api.Type {
	t.Helper()
	e, err := parse.Type(text)
	if err != nil {
		t.Fatal(text, err)
	}
	return unify.Instance(e, nil)
}

func integer() api.Type          { return api.Type{Kind: api.TyInt} }
func rigid(name string) api.Type { return api.Type{Kind: api.TyRigid, Name: name} }
func free(v int) api.Type        { return api.Type{Kind: api.TyFree, Var: v} }
func typed(name string, args ...api.Type) api.Type {
	return api.Type{Kind: api.TyData, Name: name, Args: args}
}

// texts are data as texts, with a blank between each two.
func texts(list []api.Data) string {
	var all []string
	for _, d := range list {
		if form(d) != form(clean(d)) {
			return form(list)
		}
		all = append(all, plain(d))
	}
	return strings.Join(all, " ")
}

// clean is data without what is in the fields that their kind has no use for.
func clean(d api.Data) api.Data {
	if !d.Ctor {
		return number(d.Int)
	}
	var args []api.Data
	for _, arg := range d.Args {
		args = append(args, clean(arg))
	}
	return made(d.Name, args...)
}

// listed holds a domain against a table: texts with a blank between each two.
func listed(t *testing.T, x api.Index, rows []listing) {
	t.Helper()
	for _, r := range rows {
		held(t, fmt.Sprint(r.of, " at ", r.depth), texts(data.Domain(x, typ(t, r.of), r.depth)), r.all)
	}
}

type listing struct {
	of    string
	depth int
	all   string
}

// P10.1: a type's data at each depth.
func TestDomain(t *testing.T) {
	x := read(t, declared+"type nat = z | s(nat). type tree = leaf | node(tree, int, tree).")
	listed(t, x, []listing{
		{"int", 1, "0 1 2"},
		{"T", 1, "0"},
		{"nat", 1, "z"},
		{"nat", 2, "z s(z)"},
		{"nat", 3, "z s(z) s(s(z))"},
		{"nat", 4, "z s(z) s(s(z)) s(s(s(z)))"},
		{"list(int)", 1, "nil"},
		{"list(int)", 2, "nil cons(0,nil) cons(1,nil) cons(2,nil)"},
		{"list(int)", 3, "nil cons(0,nil) cons(0,cons(0,nil)) cons(0,cons(1,nil)) cons(0,cons(2,nil)) cons(1,nil) cons(1,cons(0,nil)) cons(1,cons(1,nil)) cons(1,cons(2,nil)) cons(2,nil) cons(2,cons(0,nil)) cons(2,cons(1,nil)) cons(2,cons(2,nil))"},
		{"list(T)", 3, "nil cons(0,nil) cons(0,cons(0,nil))"},
		{"list(nat)", 1, "nil"},
		{"list(nat)", 2, "nil cons(z,nil)"},
		{"list(nat)", 3, "nil cons(z,nil) cons(z,cons(z,nil)) cons(s(z),nil) cons(s(z),cons(z,nil))"},
		{"list(list(int))", 2, "nil cons(nil,nil)"},
		{"tree", 1, "leaf"},
		{"tree", 2, "leaf node(leaf,0,leaf) node(leaf,1,leaf) node(leaf,2,leaf)"},
	})
}

// P10.1: the last argument varies fastest, and each constructor's variables are its own.
func TestDomainRows(t *testing.T) {
	listed(t, read(t, declared+"type nat = z | s(nat)."), []listing{
		{"pair(int, int)", 1, "pair(0,0) pair(0,1) pair(0,2) pair(1,0) pair(1,1) pair(1,2) pair(2,0) pair(2,1) pair(2,2) left(0) left(1) left(2)"},
		{"pair(T, int)", 1, "pair(0,0) pair(0,1) pair(0,2) left(0)"},
		{"pair(int, T)", 1, "pair(0,0) pair(1,0) pair(2,0) left(0) left(1) left(2)"},
		{"pair(nat, int)", 1, ""},
		{"pair(int, nat)", 1, "left(0) left(1) left(2)"},
		{"pair(nat, nat)", 3, "pair(z,z) pair(z,s(z)) pair(s(z),z) pair(s(z),s(z)) left(z) left(s(z))"},
		{"swap(T, nat)", 2, "swap(z,0)"},
		{"swap(T, nat)", 3, "swap(z,0) swap(s(z),0) again(swap(0,z),0)"},
		{"swap(T, nat)", 1, ""},
		{"swap(nat, T)", 2, "swap(0,z)"},
		{"swap(nat, T)", 3, "swap(0,z) swap(0,s(z)) again(swap(z,0),z) again(swap(z,0),s(z))"},
		{"nest(T)", 1, "flat(0)"},
		{"nest(T)", 2, "flat(0)"},
		{"nest(T)", 3, "flat(0) deep(flat(nil))"},
		{"nest(T)", 4, "flat(0) deep(flat(nil)) deep(flat(cons(0,nil))) deep(deep(flat(nil)))"},
		{"t", 1, "a g(0) g(1) g(2)"},
		{"ghost(int)", 1, "ghost"},
		{"ghost(int)", 3, "ghost of(ghost) of(of(ghost))"},
		{"ghost(nosuch)", 2, "ghost of(ghost)"},
		{"box(box(T))", 1, ""},
		{"box(box(T))", 2, "box(box(0))"},
	})
}

// P10.1: types with data from some depth on alone, or with none.
func TestDomainFrom(t *testing.T) {
	x := read(t, declared+`type nat = z | s(nat). type inf = inf(inf). type bad = bad(inf) | ok | bad(int, inf) | worse(inf, int). type even = none | even(odd). type odd = odd(even).
	type late = late(late, int) | early(int, int). type mix = mix(nat, pair(int, nat)). type grow(T) = grow(grow(pair(T, T))) | end(T). type hold(T) = hold(list(T), T).`)
	listed(t, x, []listing{
		{"inf", 1, ""},
		{"inf", 4, ""},
		{"bad", 1, "ok"},
		{"bad", 4, "ok"},
		{"even", 1, "none"},
		{"even", 2, "none"},
		{"even", 3, "none even(odd(none))"},
		{"odd", 1, ""},
		{"odd", 2, "odd(none)"},
		{"odd", 4, "odd(none) odd(even(odd(none)))"},
		{"late", 1, "early(0,0) early(0,1) early(0,2) early(1,0) early(1,1) early(1,2) early(2,0) early(2,1) early(2,2)"},
		{"mix", 2, "mix(z,left(0)) mix(z,left(1)) mix(z,left(2))"},
		{"grow(T)", 1, "end(0)"},
		{"grow(T)", 2, "end(0)"},
		{"grow(T)", 3, "grow(end(pair(0,0))) grow(end(left(0))) end(0)"},
		{"hold(T)", 2, "hold(nil,0)"},
		{"hold(T)", 3, "hold(nil,0) hold(cons(0,nil),0)"},
	})
}

// P10.1: the depths at which there are data, and how many.
func TestDomainDepth(t *testing.T) {
	x := read(t, declared+"type nat = z | s(nat). type tree = leaf | node(tree, tree).")
	for _, r := range []struct {
		of    string
		sizes []int // at the depths 0 to 6
	}{
		{"int", []int{3, 3, 3, 3, 3, 3, 3}},
		{"T", []int{1, 1, 1, 1, 1, 1, 1}},
		{"nat", []int{0, 1, 2, 3, 4, 0, 0}},
		{"list(int)", []int{0, 1, 4, 13, 40, 0, 0}},
		{"list(T)", []int{0, 1, 2, 3, 4, 0, 0}},
		{"list(list(int))", []int{0, 1, 2, 9, 118, 0, 0}},
		{"tree", []int{0, 1, 2, 5, 26, 0, 0}},
		{"box(int)", []int{0, 3, 3, 3, 3, 0, 0}},
		{"box(nat)", []int{0, 0, 1, 2, 3, 0, 0}},
		{"pair(tree, tree)", []int{0, 0, 2, 6, 30, 0, 0}},
		{"pair(list(int), tree)", []int{0, 0, 2, 12, 78, 0, 0}},
		{"pair(list(int), list(int))", []int{0, 0, 2, 20, 182, 0, 0}},
		{"pair(list(pair(int, int)), list(int))", []int{0, 0, 2, 4*13 + 13, 300, 0, 0}},
		{"ghost(nosuch)", []int{0, 1, 2, 3, 4, 0, 0}},
	} {
		for depth, size := range r.sizes {
			held(t, fmt.Sprint(r.of, " at ", depth), len(data.Domain(x, typ(t, r.of), depth)), size)
		}
		for _, depth := range []int{-1, -4, math.MinInt, math.MinInt + 1} {
			held(t, fmt.Sprint(r.of, " at ", depth), len(data.Domain(x, typ(t, r.of), depth)), r.sizes[0])
		}
		for _, depth := range []int{7, 100, math.MaxInt} {
			held(t, fmt.Sprint(r.of, " at ", depth), len(data.Domain(x, typ(t, r.of), depth)), r.sizes[5])
		}
	}
}

// P10.1: types that have no data, alone and as the arguments of others.
func TestNoDomain(t *testing.T) {
	x := read(t, declared)
	for _, none := range []api.Type{
		{},
		{Kind: 5},
		{Kind: -1},
		{Kind: math.MaxInt},
		{Kind: 5, Name: "t"},
		{Name: "t"},
		typed("nosuch"),
		typed(""),
		typed("int"),
		typed("T"),
		typed("cons"),
		typed("t", integer()),
		typed("t", api.Type{}),
		typed("list"),
		typed("list", integer(), integer()),
		typed("pair"),
		typed("pair", integer()),
		typed("pair", integer(), integer(), integer()),
		typed("ghost"),
	} {
		for depth := range 6 {
			what := fmt.Sprintf("%+v at %d: ", none, depth)
			held(t, what, len(data.Domain(x, none, depth)), 0)
			if depth < 1 || depth > 4 {
				continue
			}
			held(t, what+"list", texts(data.Domain(x, typed("list", none), depth)), "nil")
			held(t, what+"box", texts(data.Domain(x, typed("box", none), depth)), "")
			held(t, what+"pair", texts(data.Domain(x, typed("pair", integer(), none), depth)), "left(0) left(1) left(2)")
			held(t, what+"pair", texts(data.Domain(x, typed("pair", none, integer()), depth)), "")
			held(t, what+"ghost", len(data.Domain(x, typed("ghost", none), depth)), depth)
			// A type beside it whose text may be the same.
			both := typed("pair", typed("list", none), typed("list", integer()))
			held(t, what+"both", len(data.Domain(x, both, depth)), []int{0, 0, 2, 5, 14, 0}[depth])
			both = typed("pair", typed("list", integer()), typed("list", none))
			held(t, what+"both", len(data.Domain(x, both, depth)), []int{0, 0, 2, 8, 26, 0}[depth])
		}
	}
	// What has another number of arguments within is not what has it beside.
	x = read(t, "type two(A, B) = two. type one(A) = one. type pair(A, B) = pair(A, B).")
	beside, within := typed("two", typed("one"), integer()), typed("two", typed("one", integer()))
	held(t, "beside", texts(data.Domain(x, typed("pair", beside, beside), 3)), "pair(two,two)")
	held(t, "within", len(data.Domain(x, typed("pair", beside, within), 3)), 0)
	held(t, "within", len(data.Domain(x, typed("pair", within, beside), 3)), 0)
	held(t, "no index", len(data.Domain(api.Index{}, typed("list", integer()), 2)), 0)
	held(t, "no index", texts(data.Domain(api.Index{}, integer(), 2)), "0 1 2")
}

// P10.1: the fields that a type's Kind has no use for don't matter.
func TestDomainFields(t *testing.T) {
	x := read(t, declared)
	odd := api.Type{Kind: api.TyInt, Name: "list", Var: 3, Args: []api.Type{integer()}}
	held(t, "int", texts(data.Domain(x, odd, 2)), "0 1 2")
	odd.Kind = api.TyRigid
	held(t, "rigid", texts(data.Domain(x, odd, 2)), "0")
	odd.Kind = api.TyFree
	held(t, "free", texts(data.Domain(x, odd, 2)), "0")
	odd.Kind = api.TyData
	held(t, "data", texts(data.Domain(x, odd, 2)), "nil cons(0,nil) cons(1,nil) cons(2,nil)")
	for _, a := range []api.Type{free(0), free(-7), free(math.MaxInt), rigid(""), rigid("int"), rigid("t"), rigid("list")} {
		held(t, form(a), texts(data.Domain(x, a, 0)), "0")
		held(t, form(a), texts(data.Domain(x, typed("list", a), 2)), "nil cons(0,nil)")
		// Unknowns and rigid types beside others of the same name.
		held(t, form(a), texts(data.Domain(x, typed("pair", typed("box", a), typed("box", typed("t"))), 3)),
			"pair(box(0),box(a)) pair(box(0),box(g(0))) pair(box(0),box(g(1))) pair(box(0),box(g(2))) left(box(0))")
		held(t, form(a), texts(data.Domain(x, typed("pair", typed("box", a), typed("box", integer())), 2)), "pair(box(0),box(0)) pair(box(0),box(1)) pair(box(0),box(2)) left(box(0))")
	}
}

// constants is the constructors of a type that has so many without arguments.
func constants(count int) string {
	var list []string
	for i := range count {
		list = append(list, fmt.Sprint("c", i))
	}
	return strings.Join(list, " | ")
}

// P10.1: the first 300 of more.
func TestMostDomain(t *testing.T) {
	for _, r := range []struct {
		source string
		depth  int
		size   int
		last   string
	}{
		{constants(299), 1, 299, "c298"},
		{constants(300), 1, 300, "c299"},
		{constants(301), 1, 300, "c299"},
		{constants(900), 4, 300, "c299"},
		{constants(297) + " | f(int)", 1, 300, "f(2)"},
		{constants(298) + " | f(int)", 1, 300, "f(1)"},
		{constants(299) + " | f(int)", 1, 300, "f(0)"},
		{constants(300) + " | f(int)", 1, 300, "c299"},
		{constants(299) + " | f(t)", 1, 299, "c298"},
		{constants(299) + " | f(t)", 2, 300, "f(c0)"},
		{constants(200) + " | f(t) | g", 2, 300, "f(c99)"},
		{constants(99) + " | f(t) | g", 2, 200, "g"},
		{constants(99) + " | f(t) | g", 3, 300, "g"},
		{constants(99) + " | f(t) | g", 4, 300, "f(f(f(c2)))"},
		{"f(t) | " + constants(200), 2, 300, "c99"},
		{"f(t) | " + constants(200), 3, 300, "f(c99)"},
		{"f(int, int, int, int, int)", 1, 243, "f(2,2,2,2,2)"},
		{"f(int, int, int, int, int, int)", 1, 300, "f(1,0,2,0,0,2)"},
		{"f(int, int, int, int, int, int, int, int)", 1, 300, "f(0,0,1,0,2,0,0,2)"},
		{"f(int, int, int, int, int) | g(int, int, int, int)", 1, 300, "g(2,0,0,2)"},
		{"z | f(t, t, t, t, t, t, t, t)", 2, 2, "f(z,z,z,z,z,z,z,z)"},
		{"z | f(t, t, t, t, t, t, t, t)", 3, 257, "f(" + strings.TrimSuffix(strings.Repeat("f(z,z,z,z,z,z,z,z),", 8), ",") + ")"},
		{"z | f(t, t, t, t, t, t, t, t)", 4, 300, ""},
	} {
		x := read(t, "type t = "+r.source+".")
		list := data.Domain(x, typed("t"), r.depth)
		held(t, r.source, len(list), r.size)
		if r.last != "" {
			held(t, r.source, plain(list[len(list)-1]), r.last)
		}
	}
}

// P10.1: what is cut within, and again without.
func TestCutWithin(t *testing.T) {
	x := read(t, declared+"type c = "+constants(310)+". type big = big(c, c).")
	inner := data.Domain(x, typed("c"), 1)
	held(t, "inner", len(inner), 300)
	var boxes, lefts, rights []api.Data
	for i, c := range inner {
		boxes = append(boxes, made("box", c))
		lefts = append(lefts, made("pair", inner[i/3], number(i%3)))
		rights = append(rights, made("pair", number(i/300), inner[i%300]))
	}
	held(t, "box", data.Domain(x, typed("box", typed("c")), 2), boxes)
	held(t, "left", data.Domain(x, typed("pair", typed("c"), integer()), 2), lefts)
	held(t, "right", data.Domain(x, typed("pair", integer(), typed("c")), 2), rights)
	list := data.Domain(x, typed("big"), 2)
	held(t, "big", len(list), 300)
	held(t, "big", list[299], made("big", made("c0"), made("c299")))
}

// P7: names, and types beside, have no effect; the order of constructors is theirs.
func TestDomainNames(t *testing.T) {
	x := read(t, "type o(A) = nil2(A). type list(B) = nil | cons(B, list(B)). type p = cons(int).")
	held(t, "list", texts(data.Domain(x, typ(t, "list(int)"), 2)), "nil cons(0,nil) cons(1,nil) cons(2,nil)")
	x = read(t, "type list(B) = cons(B, list(B)) | nil.")
	held(t, "list", texts(data.Domain(x, typ(t, "list(int)"), 2)), "cons(0,nil) cons(1,nil) cons(2,nil) nil")
	x = read(t, "type list(B) = a(B, list(B)) | b | a(int) | a.")
	held(t, "list", texts(data.Domain(x, typ(t, "list(T)"), 2)), "a(0,b) a(0,a(0)) a(0,a(1)) a(0,a(2)) a(0,a) b a(0) a(1) a(2) a")
}

// P10.1: types that grow from field to field, have many constructors, or no data at all, take little time.
func TestDomainTime(t *testing.T) {
	row := func(part string, count int) string {
		return strings.Join(slices.Repeat([]string{part}, count), ",")
	}
	wide := "A"
	for range 4 {
		wide = "w(" + row(wide, 8) + ")"
	}
	var infinite, growing, growingTypes []string
	for i := range 600 {
		infinite = append(infinite, fmt.Sprint("f", i, "(", row("t", 8), ")"))
	}
	for i := range 200 {
		growing = append(growing, fmt.Sprint("f", i, "(t(w", i, "(A)))"))
		growingTypes = append(growingTypes, fmt.Sprint("type w", i, "(A) = v", i, "."))
	}
	whole := integer()
	for range 4 {
		whole = typed("w", slices.Repeat([]api.Type{whole}, 8)...)
	}
	const w = " type w(A, B, C, D, E, F, G, H) = w."
	for _, r := range []struct {
		source string
		of     api.Type
		all    string
	}{
		{"type t = " + strings.Join(infinite, "|") + ".", typed("t"), ""},
		{"type t(A) = " + strings.Join(growing, "|") + "." + strings.Join(growingTypes, ""), typed("t", integer()), ""},
		{"type t(A) = n | c(t(" + wide + "))." + w, typed("t", whole), "n c(n) c(c(n)) c(c(c(n)))"},
		{"type t(A) = n | c(t(w(" + row("t(w("+row("A", 8)+"))", 8) + ")))." + w, typed("t", whole), "n c(n) c(c(n)) c(c(c(n)))"},
		{"type t(A) = c(t(w(" + row("A", 8) + ")), t(w(" + row("t(A)", 8) + "))) | d(A)." + w, typed("t", whole), "c(c(d(w),d(w)),c(d(w),d(w))) c(c(d(w),d(w)),d(w)) c(d(w),c(d(w),d(w))) c(d(w),d(w)) d(w)"},
	} {
		held(t, r.source, texts(data.Domain(read(t, r.source), r.of, 4)), r.all)
	}
}
