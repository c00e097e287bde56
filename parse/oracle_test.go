package parse_test

import (
	"math/rand"
	"strings"
	"testing"

	"augur/api"
	"augur/lex"
	"augur/parse"
)

// The grammar once more, as rows of symbols for a machine with a stack: the errors of package parse are held against it.
// A symbol in quotes is a token with that text; name, Var and number are tokens; the others are lines of the grammar.
// What is written x+ has the nest of its line plus 1; list:x is a list in parentheses of x, or nothing.

// symbol is a line of the grammar, or a token, with its nest, and its number in a row.
type symbol struct {
	what          string
	nest, element int
}

// expand is what stands for a line of the grammar when this token is next; false if it is a token's symbol.
func expand(s symbol, next api.Token) (string, bool) {
	class := next.Text
	for _, kind := range []string{"name", "Var", "number"} {
		if fits(kind, next) {
			class = kind
		}
	}
	choose := func(rows map[string]string, otherwise string) (string, bool) {
		if row, ok := rows[class]; ok {
			return row, true
		}
		return otherwise, true
	}
	what, of, _ := strings.Cut(s.what, ":")
	switch what {
	case "source":
		return choose(map[string]string{"": ""}, "item '.' source")
	case "item":
		return choose(map[string]string{
			"type": "'type' name list:Var '=' ctor ctors", "pred": "'pred' name list:type", "mode": "'mode' name list:way 'is' det",
		}, "name list:term body")
	case "body":
		return choose(map[string]string{":-": "':-' goal"}, "")
	case "ctor":
		return "name list:type", true
	case "ctors":
		return choose(map[string]string{"|": "'|' ctor ctors"}, "")
	case "way":
		return choose(map[string]string{"out": "'out'"}, "'in'")
	case "det":
		return choose(map[string]string{"semidet": "'semidet'", "multi": "'multi'", "nondet": "'nondet'"}, "'det'")
	case "type":
		return choose(map[string]string{"Var": "Var", "int": "'int'"}, "name list:type+")
	case "term":
		return choose(map[string]string{"Var": "Var", "number": "number"}, "name list:term+")
	case "goal":
		return "prim goals", true
	case "goals":
		return choose(map[string]string{",": "',' prim goals", ";": "';' prim goals"}, "")
	case "prim":
		return choose(map[string]string{
			"true": "'true'", "fail": "'fail'", "not": "'not' prim+", "throw": "'throw' term+", "(": "'(' goal+ ')'",
			"try": "'try' prim+ 'catch' Var 'then' prim+", "name": "term+ same",
		}, "term+ '=' term+")
	case "same":
		return choose(map[string]string{"=": "'=' term+"}, "")
	case "list":
		return choose(map[string]string{"(": "'(' element:" + of + " elements:" + of + " ')'"}, "")
	case "element":
		return of, true
	case "elements":
		return choose(map[string]string{",": "',' element:" + of + " elements:" + of}, "")
	}
	return "", false
}

// fits tells whether a token is what a token's symbol asks for.
func fits(what string, tok api.Token) bool {
	switch what {
	case "name":
		return tok.Kind == api.TokName && !lex.Reserved(tok.Text)
	case "Var":
		return tok.Kind == api.TokVar
	case "number":
		return tok.Kind == api.TokInt
	}
	return what == "'"+tok.Text+"'"
}

// begins is the error that a symbol makes by beginning, at any token.
func begins(s symbol) error {
	what, _, _ := strings.Cut(s.what, ":")
	switch {
	case what == "item" && s.element > api.MaxItems, what == "element" && s.element > api.MaxArity:
		return api.ErrLarge
	case (what == "prim" || what == "term" || what == "type") && s.nest > api.MaxNest:
		return api.ErrNest
	}
	return nil
}

// symbols are those of a line's row, with their nests and numbers; a list and its elements have the same nest.
func symbols(s symbol, row string) []symbol {
	var list []symbol
	for _, what := range strings.Fields(row) {
		part := symbol{what: strings.TrimSuffix(what, "+"), nest: s.nest}
		if part.what != what {
			part.nest++
		}
		switch {
		case s.what == "source":
			part.element = s.element
			if what == "source" {
				part.element++
			}
		case strings.HasPrefix(what, "element"):
			part.element = s.element + 1
		}
		list = append(list, part)
	}
	return list
}

// machine runs the grammar from a symbol on: the first error, and how many tokens stand before it.
func machine(start string, tokens []api.Token) (int, error) {
	stack := []symbol{{what: start, nest: 1, element: 1}}
	if start != "source" {
		stack[0].element = 0
	}
	at := 0
	for len(stack) > 0 {
		s := stack[len(stack)-1]
		stack = stack[:len(stack)-1]
		var next api.Token
		if at < len(tokens) {
			next = tokens[at]
			if err := begins(s); err != nil {
				return at, err
			}
		}
		if row, ok := expand(s, next); ok {
			parts := symbols(s, row)
			for i := range parts {
				stack = append(stack, parts[len(parts)-1-i])
			}
			continue
		}
		if !fits(s.what, next) {
			return at, api.ErrSyntax
		}
		at++
	}
	if at < len(tokens) {
		return at, api.ErrSyntax
	}
	return at, nil
}

// agree holds what the four functions say of a text against the machine; it returns where and how the machine refuses it as this.
func agree(t *testing.T, start, text string) (int, error) {
	t.Helper()
	tokens, err := lex.Lex(text)
	if err != nil {
		t.Fatalf("%s: %v", short(text), err)
	}
	at, want := machine(start, tokens)
	var got error
	switch start {
	case "source":
		_, got = parse.Source(text)
	case "term":
		_, got = parse.Term(text)
	case "type":
		_, got = parse.Type(text)
	case "goal":
		_, got = parse.Goal(text)
	}
	if got != want {
		t.Fatalf("%s as a %s: error %v, not %v", short(text), start, got, want)
	}
	return at, want
}

// alphabet has a token for each that the grammar tells apart.
var alphabet = strings.Fields("type pred mode is det semidet in out int true fail not throw try catch then a X 5 ( ) , . ; | = :-")

// grow asks for a beginning followed by all rows of up to more tokens, where no row goes on after an error but by one token.
func grow(t *testing.T, start, text string, size, more int) int {
	at, err := agree(t, start, text)
	if err != nil && at < size {
		return 1
	}
	if more == 0 {
		return 1
	}
	count := 1
	for _, word := range alphabet {
		count += grow(t, start, text+" "+word, size+1, more-1)
	}
	return count
}

func growFrom(t *testing.T, start, text string, more int) int {
	tokens, err := lex.Lex(text)
	if err != nil {
		t.Fatal(err)
	}
	return grow(t, start, text, len(tokens), more)
}

// P2.1: which error, for all short texts.
func TestAllShortTexts(t *testing.T) {
	for _, start := range []string{"source", "term", "type", "goal"} {
		if count := growFrom(t, start, "", 5); count < 400 {
			t.Errorf("%s: only %d texts", start, count)
		}
	}
}

// P2.1: which error, behind beginnings that are nearly too deep, too wide, or too many.
func TestAllShortTextsAtEdges(t *testing.T) {
	for _, less := range []int{0, 1, 2} {
		depth := api.MaxNest - less
		for _, begin := range []string{
			"p(" + strings.Repeat("f(", depth-1),
			"p :- q(X, " + strings.Repeat("f(", depth-3),
			"p :- X = " + strings.Repeat("f(", depth-2),
			"p :- throw " + strings.Repeat("f(", depth-2),
			"pred p(" + strings.Repeat("l(", depth-1),
			"type t = a | b(" + strings.Repeat("l(", depth-1),
			"p :- " + strings.Repeat("(", depth-1),
			"p :- (q) ; " + strings.Repeat("not ", depth-1),
			"p :- " + strings.Repeat("try ", depth-1),
			"p :- " + strings.Repeat("try true catch E then ", depth-1),
		} {
			growFrom(t, "source", begin, 3)
		}
		wide := api.MaxArity - less
		for _, begin := range []string{
			"p(" + rowOf(wide, "1"), "p :- q(" + rowOf(wide, "X"), "p :- " + "f(" + rowOf(wide, "X"), "p :- X = f(f(" + rowOf(wide, "a"),
			"pred p(" + rowOf(wide, "T"), "pred p(l(" + rowOf(wide, "int"), "mode p(" + rowOf(wide, "in"), "type t(" + rowOf(wide, "T"), "type t = a(" + rowOf(wide, "t"),
			"p(" + strings.Repeat("f(", api.MaxNest-2) + rowOf(wide, "f"),
		} {
			growFrom(t, "source", begin, 4)
		}
	}
	growFrom(t, "source", strings.Repeat("p.", api.MaxItems), 3)
	growFrom(t, "source", strings.Repeat("p.", api.MaxItems-1), 3)
}

// P2.1: which error, for good sources in which a token is left out, put in, or another one.
func TestChangedTokens(t *testing.T) {
	for _, text := range goodSources {
		tokens, err := lex.Lex(text)
		if err != nil {
			t.Fatal(err)
		}
		for at := range tokens {
			before, after := lex.Join(tokens[:at]), lex.Join(tokens[at+1:])
			agree(t, "source", before+" "+after)
			for _, word := range alphabet {
				agree(t, "source", before+" "+word+" "+after)
				agree(t, "source", before+" "+word+" "+tokens[at].Text+" "+after)
			}
		}
	}
}

// P2.1: which error, for long rows of tokens, most of them a good source's.
func TestLongTexts(t *testing.T) {
	dice := rand.New(rand.NewSource(1))
	for range 3000 {
		tokens, err := lex.Lex(formOf(someItems(dice, 1+dice.Intn(4)), blankGaps))
		if err != nil {
			t.Fatal(err)
		}
		for range dice.Intn(3) {
			word := api.Token{Text: alphabet[dice.Intn(len(alphabet))]}
			tokens[dice.Intn(len(tokens))] = word
		}
		agree(t, "source", lex.Join(tokens))
	}
}
