package data_test

import (
	"bytes"
	"math"
	"slices"
	"strings"
	"testing"

	"augur/api"
	"augur/data"
	"augur/unify"
)

// P10.2: Decode of Encode returns the data, and encoding these results in the same bytes.
func TestDecodeOfEncode(t *testing.T) {
	d := newDice(6)
	for range 10000 {
		a := d.good(5)
		b, err := data.Encode(a)
		if err != nil || string(b) != encoding(a) {
			t.Fatalf("%+v: %v, %v", a, b, err)
		}
		back, err := data.Decode(b)
		if err != nil || form(back) != form(a) || data.Compare(back, a) != 0 {
			t.Fatalf("%+v: %+v, %v", a, back, err)
		}
		again, err := data.Encode(back)
		if err != nil || !bytes.Equal(again, b) {
			t.Fatalf("%v: %v, %v", b, again, err)
		}
	}
}

// P10.2: Read of Text returns the data.
func TestReadOfText(t *testing.T) {
	d := newDice(7)
	list := []api.Data{number(math.MinInt), number(math.MaxInt), chain(64, number(-1)), full(4096), wide(8)}
	for range 10000 {
		list = append(list, d.good(5))
	}
	for _, a := range list {
		text, err := data.Text(a)
		if err != nil {
			t.Fatalf("%+v: %v", a, err)
		}
		back, err := data.Read(text)
		if err != nil || form(back) != form(a) || data.Compare(back, a) != 0 {
			t.Fatalf("%s: %+v, %v", text, back, err)
		}
		again, err := data.Text(back)
		held(t, text, err, nil)
		held(t, text, again, text)
		shorter, err := data.Read(plain(a))
		held(t, text, err, nil)
		held(t, text, shorter, back)
	}
}

// longNames is data whose names are as long as may be.
func longNames(depth int) api.Data {
	name := strings.Repeat("n", 32)
	if depth == 1 {
		return made(name)
	}
	return made(name, slices.Repeat([]api.Data{longNames(depth - 1)}, 8)...)
}

// P10.2: what has a text that no source may have is refused when it is read.
func TestReadOfOtherTexts(t *testing.T) {
	for _, r := range []struct {
		d   api.Data
		err error
	}{
		{chain(65, number(1)), api.ErrNest},
		{chain(200, number(1)), api.ErrNest},
		{wide(9), api.ErrLarge},
		{longNames(4), api.ErrLarge},
		{made("int"), api.ErrSyntax},
		{made("f", made("not")), api.ErrSyntax},
		{made(""), api.ErrSyntax},
		{made("X"), api.ErrData},
		{made("f", made("_x")), api.ErrData},
		{made("é"), api.ErrText},
		{made(strings.Repeat("n", 33)), api.ErrText},
	} {
		text, err := data.Text(r.d)
		held(t, text, err, nil)
		d, err := data.Read(text)
		held(t, text, err, r.err)
		held(t, text, d, api.Data{})
	}
}

// P10.3: Compare is a total order, and 0 only for equal data.
func TestTotalOrder(t *testing.T) {
	d := newDice(8)
	var list []api.Data
	for range 250 {
		a := d.good(4)
		list = append(list, a, d.changed(a), strange(a))
	}
	slices.SortFunc(list, data.Compare)
	var forms []string
	for _, a := range list {
		forms = append(forms, form(clean(a)))
	}
	for i, a := range list {
		for j, b := range list {
			order := data.Compare(a, b)
			if order != -data.Compare(b, a) || i < j && order > 0 || (order == 0) != (forms[i] == forms[j]) {
				t.Fatalf("%+v and %+v: %d", a, b, order)
			}
		}
	}
}

// P10.3: what Domain returns has its type, and all elements are different, good, and not too deep.
func TestDomainHasItsType(t *testing.T) {
	x, d := read(t, universe), newDice(9)
	seen := 0
	for range 1000 {
		a, depth := d.typ(3), 1+d.Intn(4)
		list := data.Domain(x, a, depth)
		expr := []api.TypeExpr{exprOf(a)}
		for i, e := range list {
			if err := data.Check(x, expr, list[i:i+1]); err != nil {
				t.Fatalf("%+v of %s: %v", e, unify.Text(a), err)
			}
			if !data.Good(e) || form(e) != form(clean(e)) {
				t.Fatalf("%+v of %s", e, unify.Text(a))
			}
			seen++
		}
		slices.SortFunc(list, data.Compare)
		if len(list) > data.MaxDomain || len(slices.CompactFunc(list, func(a, b api.Data) bool { return data.Compare(a, b) == 0 })) < len(list) {
			t.Fatalf("%s: twice, or too many", unify.Text(a))
		}
	}
	if seen < 20000 {
		t.Error(seen)
	}
}
