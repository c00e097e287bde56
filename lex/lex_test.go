package lex_test

import (
	"math"
	"slices"
	"strconv"
	"strings"
	"testing"

	"augur/api"
	"augur/lex"
)

func name(text string) api.Token     { return api.Token{Kind: api.TokName, Text: text} }
func variable(text string) api.Token { return api.Token{Kind: api.TokVar, Text: text} }
func mark(text string) api.Token     { return api.Token{Kind: api.TokMark, Text: text} }
func number(n int) api.Token {
	return api.Token{Kind: api.TokInt, Text: strconv.Itoa(n), Int: n}
}

// short keeps messages readable when a text is as long as a source may be.
func short(text string) string {
	if len(text) > 60 {
		return strconv.Quote(text[:60]) + ".. (" + strconv.Itoa(len(text)) + " bytes)"
	}
	return strconv.Quote(text)
}

func mustLex(t *testing.T, text string) []api.Token {
	t.Helper()
	list, err := lex.Lex(text)
	if err != nil {
		t.Fatalf("Lex(%s): %v", short(text), err)
	}
	return list
}

// gone is what All goes over: the offsets and the tokens.
func gone(text string) ([]int, []api.Token) {
	var offsets []int
	var list []api.Token
	for at, tok := range lex.All(text) {
		offsets = append(offsets, at)
		list = append(list, tok)
	}
	return offsets, list
}

// P1.1: the tokens of good texts, and the offsets at which they begin.
func TestTokens(t *testing.T) {
	for _, c := range []struct {
		text    string
		list    []api.Token
		offsets []int
	}{
		{"", nil, nil},
		{" \t\r\n", nil, nil},
		{"% all of it", nil, nil},
		{"p(X):-X=-5.",
			[]api.Token{name("p"), mark("("), variable("X"), mark(")"), mark(":-"), variable("X"), mark("="), number(-5), mark(".")},
			[]int{0, 1, 2, 3, 4, 6, 7, 8, 10}},
		{"(),.;|=:-",
			[]api.Token{mark("("), mark(")"), mark(","), mark("."), mark(";"), mark("|"), mark("="), mark(":-")},
			[]int{0, 1, 2, 3, 4, 5, 6, 7}},
		{"a", []api.Token{name("a")}, []int{0}},
		{"z9_Zq azAZ09_", []api.Token{name("z9_Zq"), name("azAZ09_")}, []int{0, 6}},
		{"A Zz9_ _ __ _a _9", []api.Token{variable("A"), variable("Zz9_"), variable("_"), variable("__"), variable("_a"), variable("_9")}, []int{0, 2, 7, 9, 12, 15}},
		{"type then int", []api.Token{name("type"), name("then"), name("int")}, []int{0, 5, 10}},
		{"0 7 10 -1 -90", []api.Token{number(0), number(7), number(10), number(-1), number(-90)}, []int{0, 2, 4, 7, 10}},
		{"5-3", []api.Token{number(5), number(-3)}, []int{0, 1}},
		{"a-3", []api.Token{name("a"), number(-3)}, []int{0, 1}},
		{"X0-7", []api.Token{variable("X0"), number(-7)}, []int{0, 2}},
		{"1.2", []api.Token{number(1), mark("."), number(2)}, []int{0, 1, 2}},
		{":-5", []api.Token{mark(":-"), number(5)}, []int{0, 2}},
		{":--5", []api.Token{mark(":-"), number(-5)}, []int{0, 2}},
		{"==", []api.Token{mark("="), mark("=")}, []int{0, 1}},
		{"a\tb\nc\rd e", []api.Token{name("a"), name("b"), name("c"), name("d"), name("e")}, []int{0, 2, 4, 6, 8}},
	} {
		list := mustLex(t, c.text)
		if !slices.Equal(list, c.list) {
			t.Errorf("Lex(%s) = %v, not %v", short(c.text), list, c.list)
		}
		offsets, all := gone(c.text)
		if !slices.Equal(all, c.list) || !slices.Equal(offsets, c.offsets) {
			t.Errorf("All(%s) = %v at %v, not %v at %v", short(c.text), all, offsets, c.list, c.offsets)
		}
	}
}

// P1.1: comments go up to byte 10 and no other, or up to the end, and hold any bytes.
func TestComments(t *testing.T) {
	for _, c := range []struct {
		text string
		list []api.Token
	}{
		{"a % b\nc", []api.Token{name("a"), name("c")}},
		{"a%b\nc", []api.Token{name("a"), name("c")}},
		{"a % b\rc", []api.Token{name("a")}},
		{"a % b\r\nc", []api.Token{name("a"), name("c")}},
		{"a %", []api.Token{name("a")}},
		{"%", nil},
		{"%\n", nil},
		{"%\na", []api.Token{name("a")}},
		{"%%\n%\n% x % y\nb%", []api.Token{name("b")}},
		{"5% not a letter", []api.Token{number(5)}},
		{"% 05 -x é : \x00\xff\n.", []api.Token{mark(".")}},
		{"a% é", []api.Token{name("a")}},
	} {
		if list := mustLex(t, c.text); !slices.Equal(list, c.list) {
			t.Errorf("Lex(%s) = %v, not %v", short(c.text), list, c.list)
		}
	}
}

// P1.1: faulty texts; All goes over what stands before the fault.
func TestFaults(t *testing.T) {
	long := strings.Repeat("a", api.MaxName+1)
	for _, c := range []struct {
		text string
		list []api.Token
	}{
		{"05", nil}, {"-", nil}, {"-x", nil}, {"5x", nil}, {"a:b", []api.Token{name("a")}}, {"é", nil}, {"--5", nil},
		{"00", nil}, {"-0", nil}, {"-00", nil}, {"-05", nil}, {"007", nil},
		{"- 5", nil}, {"-\n", nil}, {"-%5\n5", nil}, {"5 -", []api.Token{number(5)}}, {"5--5", []api.Token{number(5)}},
		{"5X", nil}, {"5_", nil}, {"-5z", nil}, {"0a", nil}, {"0_", nil}, {"0Z", nil}, {"05a", nil},
		{"5é", []api.Token{number(5)}},
		{":", nil}, {": -", nil}, {"::-", nil}, {":-:", []api.Token{mark(":-")}}, {":=", nil},
		{"a ? b", []api.Token{name("a")}},
		{"a b-", []api.Token{name("a"), name("b")}},
		{"aé", []api.Token{name("a")}}, {"Xé", []api.Token{variable("X")}},
		{"p\x00", []api.Token{name("p")}}, {"p\x0bq", []api.Token{name("p")}}, {"p\x0cq", []api.Token{name("p")}},
		{"p\u00a0q", []api.Token{name("p")}}, {"p\ufeff", []api.Token{name("p")}}, {"p \xff", []api.Token{name("p")}},
		{"x(1.05)", []api.Token{name("x"), mark("("), number(1), mark(".")}},
		{"a " + long + " b", []api.Token{name("a")}},
		{"a _" + long, []api.Token{name("a")}},
		{"a\n% so\n -0", []api.Token{name("a")}},
		{"a 9223372036854775808 b", []api.Token{name("a")}},
	} {
		if list, err := lex.Lex(c.text); err != api.ErrText || len(list) != 0 {
			t.Errorf("Lex(%s) = %v, %v, not ErrText alone", short(c.text), list, err)
		}
		if _, list := gone(c.text); !slices.Equal(list, c.list) {
			t.Errorf("All(%s) = %v, not %v", short(c.text), list, c.list)
		}
	}
}

// P1.1: what each byte is when it stands alone.
func TestEachByte(t *testing.T) {
	for c := range 256 {
		text := string([]byte{byte(c)})
		list, err := lex.Lex(text)
		kind, fault := kindAlone(text[0])
		if fault {
			if err != api.ErrText || len(list) != 0 {
				t.Errorf("Lex(%q) = %v, %v, not ErrText alone", text, list, err)
			}
			continue
		}
		if err != nil || kind == 0 && len(list) != 0 {
			t.Errorf("Lex(%q) = %v, %v", text, list, err)
		} else if kind != 0 && (len(list) != 1 || list[0].Kind != kind || list[0].Text != text) {
			t.Errorf("Lex(%q) = %v, %v, not one token of kind %d", text, list, err, kind)
		}
	}
}

func kindAlone(c byte) (kind int, fault bool) {
	for kind, set := range []string{
		"\t\n\r %",
		"abcdefghijklmnopqrstuvwxyz",
		"ABCDEFGHIJKLMNOPQRSTUVWXYZ_",
		"0123456789",
		"(),.;|=",
	} {
		if strings.IndexByte(set, c) >= 0 {
			return kind, false
		}
	}
	return 0, true
}

// P1.1: a text of just MaxSource bytes, and of one more, which is checked before all else.
func TestMaxSource(t *testing.T) {
	for _, c := range []struct {
		part string
		more string
		toks int
	}{
		{"a ", "a", api.MaxSource / 2},
		{"(", "(", api.MaxSource},
		{"    ", " ", 0},
		{"%%", "%", 0},
		{"a\n", "?", api.MaxSource / 2},
	} {
		text := strings.Repeat(c.part, api.MaxSource/len(c.part))
		if list := mustLex(t, text); len(list) != c.toks {
			t.Errorf("Lex(%s): %d tokens, not %d", short(text), len(list), c.toks)
		}
		if offsets, _ := gone(text); len(offsets) != c.toks {
			t.Errorf("All(%s): %d tokens, not %d", short(text), len(offsets), c.toks)
		}
		text += c.more
		if list, err := lex.Lex(text); err != api.ErrLarge || len(list) != 0 {
			t.Errorf("Lex(%s): %d tokens, %v, not ErrLarge alone", short(text), len(list), err)
		}
		if offsets, _ := gone(text); len(offsets) != 0 {
			t.Errorf("All(%s): %d tokens, not none", short(text), len(offsets))
		}
	}
	for _, text := range []string{"?", "é", "05"} {
		if _, err := lex.Lex(text + strings.Repeat(" ", api.MaxSource)); err != api.ErrLarge {
			t.Errorf("%s and blanks: %v, not ErrLarge", short(text), err)
		}
	}
	if _, err := lex.Lex(strings.Repeat(" ", api.MaxSource-1) + "?"); err != api.ErrText {
		t.Errorf("a fault at the last place: %v, not ErrText", err)
	}
}

// P1.1: names and variables of just MaxName bytes, and of one more.
func TestMaxName(t *testing.T) {
	for _, begin := range []string{"a", "A", "_"} {
		for _, rest := range []string{"b", "B", "_", "0"} {
			text := begin + strings.Repeat(rest, api.MaxName-1)
			list := mustLex(t, text+".")
			if len(list) != 2 || list[0].Text != text || list[1] != mark(".") {
				t.Errorf("Lex(%s.) = %v", short(text), list)
			}
			for _, more := range []string{"c", "C", "_", "9"} {
				if list, err := lex.Lex(text + more); err != api.ErrText || len(list) != 0 {
					t.Errorf("Lex(%s) = %v, %v, not ErrText alone", short(text+more), list, err)
				}
			}
			if list := mustLex(t, text+" c"); len(list) != 2 {
				t.Errorf("Lex(%s c) = %v", short(text), list)
			}
		}
	}
}

// P1.1: the outermost ints, and those just outside.
func TestIntRange(t *testing.T) {
	for _, n := range []int{math.MinInt64, math.MinInt64 + 1, -10, -9, -1, 0, 1, 9, 10, 99, math.MaxInt64 - 1, math.MaxInt64} {
		text := strconv.Itoa(n)
		if list := mustLex(t, text); !slices.Equal(list, []api.Token{number(n)}) {
			t.Errorf("Lex(%s) = %v", text, list)
		}
		if list := mustLex(t, "x="+text+"."); !slices.Equal(list, []api.Token{name("x"), mark("="), number(n), mark(".")}) {
			t.Errorf("Lex(x=%s.) = %v", text, list)
		}
	}
	for _, text := range []string{
		"9223372036854775808", "-9223372036854775809", "9223372036854775810", "18446744073709551616",
		"-18446744073709551616", "10000000000000000000", "1" + strings.Repeat("0", 1000), "-" + strings.Repeat("9", api.MaxSource-1),
	} {
		if list, err := lex.Lex(text); err != api.ErrText || len(list) != 0 {
			t.Errorf("Lex(%s) = %v, %v, not ErrText alone", short(text), list, err)
		}
	}
}

// P1.1: an iterator can be used several times, at once too, and be stopped at any point.
func TestAllAgain(t *testing.T) {
	text := "p(X, -5) :- q. ?"
	_, whole := gone(text)
	all := lex.All(text)
	for stop := range len(whole) + 1 {
		var list []api.Token
		for _, tok := range all {
			if len(list) == stop {
				break
			}
			list = append(list, tok)
		}
		if !slices.Equal(list, whole[:stop]) {
			t.Errorf("stopped after %d: %v", stop, list)
		}
	}
	pairs := 0
	for range all {
		for range all {
			pairs++
		}
	}
	if len(whole) != 9 || pairs != 81 {
		t.Errorf("%d tokens, %d pairs", len(whole), pairs)
	}
	count := 0
	all(func(int, api.Token) bool { count++; return false })
	if count != 1 {
		t.Errorf("%d tokens after a stop at the first", count)
	}
}

// P1.1: Join takes the texts as they are, whatever the tokens.
func TestJoin(t *testing.T) {
	for _, c := range []struct {
		list []api.Token
		want string
	}{
		{nil, ""},
		{[]api.Token{}, ""},
		{[]api.Token{name("a")}, "a"},
		{[]api.Token{name("p"), mark("("), number(-5), mark(")"), mark(":-")}, "p ( -5 ) :-"},
		{[]api.Token{{}, {}, {}}, "  "},
		{[]api.Token{{Kind: 99, Text: "a b\n"}, {Kind: api.TokInt, Text: "x", Int: 7}, {Kind: -1, Text: "\xff"}}, "a b\n x \xff"},
	} {
		if got := lex.Join(c.list); got != c.want {
			t.Errorf("Join(%v) = %q, not %q", c.list, got, c.want)
		}
	}
	many := make([]api.Token, 100000)
	for i := range many {
		many[i] = name("abc")
	}
	if got := lex.Join(many); got != strings.Repeat("abc ", 100000)[:399999] {
		t.Errorf("Join of many: %s", short(got))
	}
}

// P1.1: the reserved names, and none beside them.
func TestReserved(t *testing.T) {
	words := strings.Fields("type pred mode is det semidet multi nondet in out true fail not throw try catch then int")
	if len(words) != 18 {
		t.Fatal(len(words))
	}
	for _, word := range words {
		if !lex.Reserved(word) {
			t.Errorf("%s is not reserved", word)
		}
		for _, other := range []string{strings.ToUpper(word), strings.ToUpper(word[:1]) + word[1:], word + "s", word[1:], word[:len(word)-1], " " + word, word + " ", word + "_"} {
			if lex.Reserved(other) && !slices.Contains(words, other) {
				t.Errorf("%q is reserved", other)
			}
		}
	}
	for _, other := range []string{"", "p", "list", "else", "if", "end", "throws", "false", "semi", "inout", "ints", "=", ":-", "5", "X"} {
		if lex.Reserved(other) {
			t.Errorf("%q is reserved", other)
		}
	}
}

// P1.1: a result is new memory, and hangs on nothing but the text.
func TestResultsAreNew(t *testing.T) {
	text := "p(X) :- X = 5."
	first := mustLex(t, text)
	want := slices.Clone(first)
	for i := range first {
		first[i] = api.Token{}
	}
	if second := mustLex(t, text); !slices.Equal(second, want) {
		t.Errorf("after a change of an earlier result: %v", second)
	}
	list := slices.Clone(want)
	lex.Join(list[:2])
	if !slices.Equal(list, want) {
		t.Errorf("Join changed its argument: %v", list)
	}
}
