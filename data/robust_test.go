package data_test

import (
	"fmt"
	"math"
	"reflect"
	"slices"
	"strings"
	"sync"
	"testing"

	"augur/api"
	"augur/data"
)

// roomy is a copy of a value that shares nothing with it, in which each list has room beyond its end, with marks in it.
func roomy[T any](value T) T { return roomyValue(reflect.ValueOf(value)).Interface().(T) }

func roomyValue(value reflect.Value) reflect.Value {
	made := reflect.New(value.Type()).Elem()
	made.Set(value)
	switch value.Kind() {
	case reflect.Struct:
		for i := range value.NumField() {
			made.Field(i).Set(roomyValue(value.Field(i)))
		}
	case reflect.Slice:
		list := reflect.MakeSlice(value.Type(), 0, value.Len()+3)
		for _, x := range value.Seq2() {
			list = reflect.Append(list, roomyValue(x))
		}
		for range 3 {
			list = reflect.Append(list, mark(value.Type().Elem()))
		}
		made.Set(list.Slice(0, value.Len()))
	}
	return made
}

// mark is a value that no list has.
func mark(of reflect.Type) reflect.Value {
	made := reflect.New(of).Elem()
	switch of.Kind() {
	case reflect.Struct:
		for i := range made.NumField() {
			made.Field(i).Set(mark(made.Field(i).Type()))
		}
	case reflect.Int:
		made.SetInt(-77)
	case reflect.Uint8:
		made.SetUint(77)
	case reflect.String:
		made.SetString("mark")
	}
	return made
}

// lists calls visit with each list in a value, up to what it has room for.
func lists(value reflect.Value, visit func(reflect.Value)) {
	switch value.Kind() {
	case reflect.Struct:
		for i := range value.NumField() {
			lists(value.Field(i), visit)
		}
	case reflect.Slice:
		visit(value.Slice(0, value.Cap()))
		for _, x := range value.Seq2() {
			lists(x, visit)
		}
	}
}

// rooms tells all that a value's lists have room for.
func rooms(value any) string {
	var told strings.Builder
	lists(reflect.ValueOf(value), func(list reflect.Value) { told.WriteString(form(list.Interface())) })
	return told.String()
}

// span is where a list lies, with what it has room for.
type span struct{ from, to uintptr }

// spans are where a value's lists lie.
func spans(value any) []span {
	var found []span
	lists(reflect.ValueOf(value), func(list reflect.Value) {
		if list.Len() > 0 {
			from := list.Pointer()
			found = append(found, span{from, from + uintptr(list.Len())*list.Type().Elem().Size()})
		}
	})
	return found
}

// isNew asks that an answer shares no memory with others, and that no two of its lists share any.
func isNew(t *testing.T, what string, answer any, others ...any) {
	t.Helper()
	type place struct {
		span
		own bool
	}
	var all []place
	for _, s := range spans(answer) {
		all = append(all, place{s, true})
	}
	for _, other := range others {
		for _, s := range spans(other) {
			all = append(all, place{s, false})
		}
	}
	slices.SortFunc(all, func(a, b place) int { return int(int64(a.from) - int64(b.from)) })
	for i := 1; i < len(all); i++ {
		if a, b := all[i-1], all[i]; b.from < a.to && (a.own || b.own) {
			t.Fatalf("%.300s: lists share memory", what)
		}
	}
}

// P10.1, rule 4: no call changes the data, bytes and types that it is given, nor answers its memory.
func TestArgumentsStay(t *testing.T) {
	d := newDice(10)
	for range 1000 {
		a := roomy(one(d, d.good(4), strangeWith(d.good(3), junk[:1]), made(one(d, "", "\xff"), d.good(3), wide(9))))
		b := roomy(d.changed(a))
		before, beforeB := rooms(a), rooms(b)
		data.Compare(a, b)
		held(t, before, data.Good(a), true)
		data.Nodes(a)
		_, err := data.Text(a)
		held(t, before, err, nil)
		bytes, _ := data.Encode(a)
		again, _ := data.Encode(a)
		isNew(t, before, bytes, again)
		held(t, before, rooms(a), before)
		held(t, before, rooms(b), beforeB)
		if bytes == nil {
			continue
		}
		bytes = roomy(bytes)
		beforeBytes := rooms(bytes)
		back, err := data.Decode(bytes)
		held(t, before, err, nil)
		other, _ := data.Decode(bytes)
		isNew(t, before, back, other, a, bytes)
		held(t, before, rooms(bytes), beforeBytes)
		kept := form(back)
		clear(bytes[:cap(bytes)])
		spoil(other)
		held(t, before, form(back), kept)
	}
}

// spoil changes all that data consist of.
func spoil(a api.Data) {
	for i := range a.Args {
		spoil(a.Args[i])
		a.Args[i] = made("spoilt", number(-77))
	}
}

// P10.1, rule 4: what Read answers is new memory, and what Check is given stays as it is.
func TestReadIsNew(t *testing.T) {
	x, d := roomy(read(t, universe)), newDice(11)
	before := rooms(x)
	for range 1000 {
		a := d.good(5)
		text, _ := data.Text(a)
		b, _ := data.Read(text)
		other, _ := data.Read(text)
		isNew(t, text, b, other, a)
		spoil(other)
		held(t, text, form(b), form(a))
	}
	for range 1000 {
		a := d.typ(2)
		exprs, list := roomy([]api.TypeExpr{exprOf(a), exprOf(d.typ(2))}), []api.Data(nil)
		for range exprs {
			list = append(list, strangeWith(d.value(x, a, 4, 20), junk[:1]))
		}
		list = roomy(list)
		beforeExprs, beforeList := rooms(exprs), rooms(list)
		err := data.Check(x, exprs, list)
		held(t, beforeList, rooms(exprs), beforeExprs)
		held(t, beforeList, rooms(list), beforeList)
		held(t, beforeList, data.Check(x, exprs, list), err)
	}
	held(t, "index", rooms(x), before)
}

// P10.1, rule 4: a domain's data share nothing with one another, with other answers, or with what was handed in.
func TestDomainIsNew(t *testing.T) {
	x, d := roomy(read(t, universe)), newDice(12)
	before := rooms(x)
	for range 300 {
		a, depth := roomy(d.typ(3)), 1+d.Intn(4)
		beforeA := rooms(a)
		list := data.Domain(x, a, depth)
		other := data.Domain(x, a, depth)
		isNew(t, beforeA, list, other, x, a)
		kept := form(list)
		held(t, beforeA, form(other), kept)
		for i := range other {
			spoil(other[i])
			other[i] = number(-77)
		}
		held(t, beforeA, form(list), kept)
		held(t, beforeA, form(data.Domain(x, a, depth)), kept)
		held(t, beforeA, rooms(a), beforeA)
	}
	held(t, "index", rooms(x), before)
}

// odd throws data, types and indexes that no layer makes.
type odd struct{ dice }

func (o odd) name() string {
	return one(o.dice, "", "int", "t", "t", "f", "list", "T", "_", "\xff", strings.Repeat("n", 33))
}

func (o odd) number() int {
	return one(o.dice, 0, 1, 2, 3, 4, 5, -1, 300, math.MaxInt, math.MinInt)
}

func (o odd) data() api.Data {
	if o.Intn(20) == 0 {
		return wide(one(o.dice, 8, 9, 30))
	}
	return api.Data{Ctor: o.Intn(3) > 0, Int: o.number(), Name: o.name(), Args: many(o.Intn(5)/2, o.data)}
}

func (o odd) typ() api.Type {
	return api.Type{Kind: one(o.dice, api.TyData, api.TyInt, o.number()), Name: o.name(), Var: o.number(), Args: many(o.Intn(5)/2, o.typ)}
}

func (o odd) expr() api.TypeExpr {
	return api.TypeExpr{Var: o.Intn(3) == 0, Name: o.name(), Args: many(o.Intn(5)/2, o.expr)}
}

func (o odd) key() api.Key { return api.Key{Name: o.name(), Arity: one(o.dice, 0, 1, 2, o.number())} }

func (o odd) ctor() api.Ctor {
	return api.Ctor{Key: o.key(), Type: o.name(), Vars: many(o.Intn(3), o.name), Args: many(one(o.dice, 0, 0, 1, 2, 3), o.expr), Tag: o.number()}
}

func (o odd) index() api.Index {
	x := api.Index{Ctors: many(o.Intn(12), o.ctor)}
	for i := range x.Ctors {
		// Mostly as many arguments as the key tells.
		if c := &x.Ctors[i]; o.Intn(3) > 0 {
			c.Key.Arity = len(c.Args)
		}
	}
	return x
}

// P10.1: every call ends without a panic, whatever it is given, changes none of it, and answers nothing beside an error.
func TestOddArguments(t *testing.T) {
	o, counts := odd{newDice(13)}, map[string]int{}
	for range 4000 {
		x, a, b := roomy(o.index()), roomy(o.data()), roomy(o.data())
		exprs, list, of := roomy(many(o.Intn(3), o.expr)), roomy(many(o.Intn(3), o.data)), roomy(o.typ())
		before := rooms(x) + rooms(exprs) + rooms(list) + rooms([]api.Data{a, b}) + rooms(of)
		encoded, err := data.Encode(a)
		if err != nil {
			held(t, form(a), encoded, []byte(nil))
		}
		counts[fmt.Sprint("encode ", err)]++
		back, err := data.Decode([]byte(form(a)))
		held(t, form(a), err, api.ErrBytes)
		held(t, form(a), back, api.Data{})
		if _, err := data.Text(a); err != nil {
			t.Fatal(a, err)
		}
		back, err = data.Read(fmt.Sprint(a.Name))
		if err != nil {
			held(t, form(a), back, api.Data{})
		}
		if order := data.Compare(a, b); order != -data.Compare(b, a) || data.Compare(a, a) != 0 || (order == 0) != (form(clean(a)) == form(clean(b))) {
			t.Fatalf("%+v and %+v: %d", a, b, order)
		}
		counts[fmt.Sprint("check ", data.Check(x, exprs, list))]++
		domain := data.Domain(x, of, one(o.dice, 1, 2, 3, 4, o.number()))
		isNew(t, form(of), domain, x, of)
		if len(domain) > data.MaxDomain {
			t.Fatalf("%+v: %d", of, len(domain))
		}
		counts[fmt.Sprint("domain ", min(len(domain), 1))]++
		held(t, form(a), rooms(x)+rooms(exprs)+rooms(list)+rooms([]api.Data{a, b})+rooms(of), before)
	}
	if len(counts) != 6 {
		t.Error(counts)
	}
}

// P10.1: a constructor with another number of arguments than its key tells, which no layer's index has.
func TestOddIndex(t *testing.T) {
	ctor := api.Ctor{Key: api.Key{Name: "f", Arity: 1}, Type: "t"}
	for count := range 4 {
		ctor.Args = many(count, func() api.TypeExpr { return api.TypeExpr{Name: "int"} })
		want := api.ErrData
		if count == 1 {
			want = nil
		}
		held(t, form(ctor), data.Check(api.Index{Ctors: []api.Ctor{ctor}}, []api.TypeExpr{{Name: "t"}}, []api.Data{made("f", number(1))}), want)
	}
}

// P10.1, rule 7, P7: what a call answers doesn't hang on others before it or beside it.
func TestCallsAreApart(t *testing.T) {
	x := read(t, universe)
	told := make([]string, 8)
	var beside sync.WaitGroup
	for at := range told {
		beside.Go(func() {
			d := newDice(int64(20 + at%2))
			var text strings.Builder
			for range 300 {
				a, of := d.good(4), d.typ(2)
				b, err := data.Encode(a)
				back, _ := data.Decode(b)
				shown, _ := data.Text(back)
				again, _ := data.Read(shown)
				list := data.Domain(x, of, 3)
				e := d.value(x, of, 4, 10)
				text.WriteString(form(b) + form(err) + shown + form(again) + form(list) + form(data.Check(x, []api.TypeExpr{exprOf(of)}, []api.Data{e})))
				text.WriteString(form(data.Compare(a, e)) + form(data.Nodes(e)) + form(data.Good(a)))
			}
			told[at] = text.String()
		})
	}
	beside.Wait()
	for at := range told {
		if told[at] != told[at%2] {
			t.Error("a call hangs on another one")
		}
	}
}

// P10.1: a call ends also where 2^16 parts are within one another, or more than that in bytes.
func TestDeep(t *testing.T) {
	const depth = 1 << 16
	deep, other := chain(depth, number(1)), chain(depth, number(2))
	x := read(t, declared)
	held(t, "deep", data.Nodes(deep), 4097)
	held(t, "deep", data.Good(deep), false)
	held(t, "deep", data.Check(x, []api.TypeExpr{{Var: true, Name: "T"}}, []api.Data{deep}), api.ErrLarge)
	_, err := data.Encode(deep)
	held(t, "deep", err, api.ErrLarge)
	_, err = data.Text(deep)
	held(t, "deep", err, api.ErrLarge)
	held(t, "deep", data.Compare(deep, other), -1)
	held(t, "deep", data.Compare(other, deep), 1)
	held(t, "deep", data.Compare(deep, chain(depth, number(1))), 0)
	held(t, "deep", data.Compare(deep, chain(depth-1, number(1))), 1)
	expr, of := api.TypeExpr{Var: true, Name: "T"}, integer()
	for range depth {
		expr, of = api.TypeExpr{Name: "list", Args: []api.TypeExpr{expr}}, typed("list", of)
	}
	held(t, "deep type", data.Check(x, []api.TypeExpr{expr}, []api.Data{made("nil")}), api.ErrLarge)
	held(t, "deep type", data.Check(x, []api.TypeExpr{expr}, []api.Data{made("nosuch")}), api.ErrData)
	held(t, "deep type", texts(data.Domain(x, of, 3)), "nil cons(nil,nil) cons(nil,cons(nil,nil)) cons(cons(nil,nil),nil) cons(cons(nil,nil),cons(nil,nil))")
	refused(t, []byte(strings.Repeat("\x01\x01a\x01", 1<<24)))
	_, err = data.Read(strings.Repeat("a(", 8000))
	held(t, "deep text", err, api.ErrNest)
}

// P10.1: calls with much that is wide take time that grows with it.
func TestWide(t *testing.T) {
	const width = 1 << 20
	list := make([]api.Data, width)
	types := slices.Repeat([]api.TypeExpr{{Name: "int"}}, width)
	x := read(t, declared)
	held(t, "wide", data.Nodes(made("w", list...)), 4097)
	held(t, "wide", data.Good(made("w", list...)), false)
	held(t, "wide", data.Compare(made("w", list...), made("w", slices.Clone(list)...)), 0)
	held(t, "wide", data.Check(x, types, list), nil)
	held(t, "wide", data.Check(x, types, list[1:]), api.ErrData)
	list[width-1] = made("a")
	held(t, "wide", data.Check(x, types, list), api.ErrData)
	args := make([]api.Type, width)
	held(t, "wide type", len(data.Domain(x, typed("list", args...), 3)), 0)
	refused(t, append([]byte("\x01\x01w\x08"), make([]byte, width)...))
}

// P10.1: data whose lists share memory, so that they have more nodes than anything could go through.
func TestShared(t *testing.T) {
	a := made("z")
	for range 100 {
		a = made("f", a, a)
	}
	held(t, "shared", data.Nodes(a), 4097)
	held(t, "shared", data.Good(a), false)
	_, err := data.Encode(a)
	held(t, "shared", err, api.ErrLarge)
	_, err = data.Text(a)
	held(t, "shared", err, api.ErrLarge)
	held(t, "shared", data.Check(api.Index{}, nil, []api.Data{number(1), a}), api.ErrLarge)
	held(t, "shared", data.Compare(made("g", a), made("f", a, a)), 1)
	held(t, "shared", data.Compare(made("f", a), made("f", a, a)), -1)
	// What is good may share memory, too: it is answered as if it didn't.
	part := made("cons", number(1), made("nil"))
	whole := made("cons", part, made("cons", part, made("nil")))
	x := read(t, declared)
	held(t, "part", data.Check(x, []api.TypeExpr{{Var: true, Name: "T"}, {Var: true, Name: "T"}}, []api.Data{whole, whole}), nil)
	b, err := data.Encode(whole)
	held(t, "part", err, nil)
	held(t, "part", string(b), encoding(whole))
	back, err := data.Decode(b)
	held(t, "part", err, nil)
	isNew(t, "part", back, whole)
}
