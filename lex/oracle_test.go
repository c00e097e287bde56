package lex_test

import (
	"math/big"
	"math/rand"
	"regexp"
	"slices"
	"strings"
	"testing"

	"augur/api"
	"augur/lex"
)

// The tokens once more, by patterns: what Lex and All are held against.
var (
	gap    = regexp.MustCompile(`^(?:[\t\n\r ]|%[^\n]*)*`)
	begins = regexp.MustCompile(`^(?:([a-z][A-Za-z0-9_]*)|([A-Z_][A-Za-z0-9_]*)|(-?[0-9]+)|(:-|[(),.;|=]))`)
	tail   = regexp.MustCompile(`^[A-Za-z_]`)
	spelt  = regexp.MustCompile(`^(?:0|-?[1-9][0-9]*)$`)
)

// expected is what All goes over, and Lex's error, by the patterns.
func expected(text string) (offsets []int, list []api.Token, err error) {
	if len(text) > api.MaxSource {
		return nil, nil, api.ErrLarge
	}
	at := len(gap.FindString(text))
	for at < len(text) {
		rest := text[at:]
		m := begins.FindStringSubmatch(rest)
		if m == nil {
			return offsets, list, api.ErrText
		}
		tok := api.Token{Text: m[0]}
		for kind := api.TokName; kind <= api.TokMark; kind++ {
			if m[kind] != "" {
				tok.Kind = kind
			}
		}
		if tok.Kind <= api.TokVar && len(tok.Text) > api.MaxName {
			return offsets, list, api.ErrText
		}
		if tok.Kind == api.TokInt {
			n, _ := new(big.Int).SetString(tok.Text, 10)
			if !spelt.MatchString(tok.Text) || !n.IsInt64() || tail.MatchString(rest[len(tok.Text):]) {
				return offsets, list, api.ErrText
			}
			tok.Int = int(n.Int64())
		}
		offsets, list = append(offsets, at), append(list, tok)
		at += len(tok.Text)
		at += len(gap.FindString(text[at:]))
	}
	return offsets, list, nil
}

// agree holds Lex and All against the patterns; it returns Lex's tokens.
func agree(t *testing.T, text string) []api.Token {
	t.Helper()
	offsets, list, err := expected(text)
	gotOffsets, gotAll := gone(text)
	if !slices.Equal(gotOffsets, offsets) || !slices.Equal(gotAll, list) {
		t.Fatalf("All(%s) = %v at %v, not %v at %v", short(text), gotAll, gotOffsets, list, offsets)
	}
	if err != nil {
		list = nil
	}
	got, gotErr := lex.Lex(text)
	if gotErr != err || !slices.Equal(got, list) {
		t.Fatalf("Lex(%s) = %v, %v, not %v, %v", short(text), got, gotErr, list, err)
	}
	return got
}

// rejoin holds what P1.2 says of a list that Lex returned.
func rejoin(t *testing.T, list []api.Token) {
	t.Helper()
	joined := lex.Join(list)
	if len(joined) > api.MaxSource {
		return
	}
	if again, err := lex.Lex(joined); err != nil || !slices.Equal(again, list) {
		t.Fatalf("Lex(%s) = %v, %v, not %v", short(joined), again, err, list)
	}
}

// P1.1 and P1.2, for all short texts of the bytes that matter.
func TestAllShortTexts(t *testing.T) {
	alphabet := "aZ_059-:.=% \n\x0b\xc3"
	var grow func(text string, more int)
	grow = func(text string, more int) {
		if list := agree(t, text); len(list) > 0 {
			rejoin(t, list)
		}
		if more == 0 {
			return
		}
		for i := range len(alphabet) {
			grow(text+alphabet[i:i+1], more-1)
		}
	}
	grow("", 4)
}

// pieces are good tokens, of all kinds and at the edges.
func pieces() []string {
	return []string{
		"a", "p", "type", "then", "zZ9_", strings.Repeat("n", api.MaxName), "X", "_", "_1", strings.Repeat("V", api.MaxName),
		"0", "7", "-7", "10", "9223372036854775807", "-9223372036854775808",
		":-", "(", ")", ",", ".", ";", "|", "=",
	}
}

// gaps are what may stand between two tokens; the last two only at the end.
func gaps() []string {
	return []string{
		" ", "\t", "\n", "\r", "  \r\n\t ", "%\n", " % so\n", "% 05 ? é -\n%%\n", "%a\rb\n", "\n%\x00\xff\n ",
		"%", "% the end: 05 ?",
	}
}

// P1.1, for long texts of tokens, blanks, comments and faults in any order.
func TestManyTexts(t *testing.T) {
	dice := rand.New(rand.NewSource(1))
	parts := append(append(pieces(), gaps()...), "?", ":", "-", "05", "-0", "é", "9223372036854775808", strings.Repeat("w", api.MaxName+1))
	good := len(parts) - 8
	for round := range 3000 {
		var b strings.Builder
		for range dice.Intn(40) {
			if round%2 == 0 {
				b.WriteString(parts[dice.Intn(good)])
			} else {
				b.WriteString(parts[dice.Intn(len(parts))])
			}
			if dice.Intn(3) > 0 {
				b.WriteByte(' ')
			}
		}
		rejoin(t, agree(t, b.String()))
	}
}

// P1.2: tokens that stood without blanks are the same after Join, whose result may be just as long as a source.
func TestJoinedAgain(t *testing.T) {
	for _, text := range []string{
		"", "p(X):-X=-5.", "5-3", "a-3", ":-:-", ":--5", "...", "a.b", "% so", "p(X) :- % so\n q(X).",
		strings.Repeat("(", api.MaxSource/2), strings.Repeat("5-", api.MaxSource/4) + "5",
	} {
		rejoin(t, mustLex(t, text))
	}
	most := mustLex(t, strings.Repeat("ab,", api.MaxSource/5)+"ab.")
	if joined := lex.Join(most); len(joined) != api.MaxSource {
		t.Fatalf("%d bytes", len(joined))
	}
	rejoin(t, most)
	over := mustLex(t, strings.Repeat("(", api.MaxSource))
	if _, err := lex.Lex(lex.Join(over)); err != api.ErrLarge {
		t.Errorf("a result of Join of more than MaxSource bytes: %v, not ErrLarge", err)
	}
}

// P1.3: whatever blanks and comments stand between tokens, the tokens are the same.
func TestGapsChangeNothing(t *testing.T) {
	dice := rand.New(rand.NewSource(2))
	words, between := pieces(), gaps()
	last := len(between) - 2
	for range 2000 {
		var plain, spread strings.Builder
		for range dice.Intn(30) {
			word := words[dice.Intn(len(words))]
			plain.WriteString(" " + word)
			spread.WriteString(between[dice.Intn(last)] + word)
			for range dice.Intn(3) {
				spread.WriteString(between[dice.Intn(last)])
			}
		}
		spread.WriteString(between[dice.Intn(len(between))])
		want := mustLex(t, plain.String())
		if got := mustLex(t, spread.String()); !slices.Equal(got, want) {
			t.Fatalf("Lex(%s) = %v, not %v", short(spread.String()), got, want)
		}
	}
}

// P1.3: each blank and comment, in each place between the tokens of two items.
func TestGapInEachPlace(t *testing.T) {
	text := "p(X,-5):-q(X);X=7.type t=a|b."
	offsets, want := gone(text)
	for _, at := range append(offsets, len(text)) {
		for _, gap := range gaps()[:10] {
			spread := text[:at] + gap + text[at:]
			if got := mustLex(t, spread); !slices.Equal(got, want) {
				t.Errorf("Lex(%q) = %v, not %v", spread, got, want)
			}
		}
	}
}
