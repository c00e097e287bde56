// Package lex is layer 1: it divides a text into tokens (shared/doc/01-lex.md).
package lex

import (
	"iter"
	"strconv"
	"strings"

	"augur/api"
)

// Lex is a text's tokens, in order.
func Lex(text string) ([]api.Token, error) {
	var list []api.Token
	err := scan(text, func(_ int, tok api.Token) bool {
		list = append(list, tok)
		return true
	})
	if err != nil {
		return nil, err
	}
	return list, nil
}

// All goes over a text's tokens, each with the offset at which it begins, up to the place of Lex's error.
func All(text string) iter.Seq2[int, api.Token] {
	return func(yield func(int, api.Token) bool) {
		_ = scan(text, yield) // the error is Lex's to tell
	}
}

// Join is the tokens' texts with a single blank between each two.
func Join(list []api.Token) string {
	var joined strings.Builder
	for i, tok := range list {
		if i > 0 {
			joined.WriteByte(' ')
		}
		joined.WriteString(tok.Text)
	}
	return joined.String()
}

// Reserved tells whether a name is a word of the language itself.
func Reserved(name string) bool {
	switch name {
	case "type", "pred", "mode", "is", "det", "semidet", "multi", "nondet", "in", "out",
		"true", "fail", "not", "throw", "try", "catch", "then", "int":
		return true
	}
	return false
}

// scan is what Lex and All have in common, so that both find the same tokens and end at the same place.
func scan(text string, yield func(int, api.Token) bool) error {
	if len(text) > api.MaxSource {
		return api.ErrLarge
	}
	for at := skip(text, 0); at < len(text); {
		tok, ok := first(text[at:])
		if !ok {
			return api.ErrText
		}
		if !yield(at, tok) {
			return nil
		}
		at = skip(text, at+len(tok.Text))
	}
	return nil
}

// skip is the first place from at on that belongs to neither a blank nor a comment.
func skip(text string, at int) int {
	for at < len(text) {
		switch {
		case isBlank(text[at]):
			at++
		case text[at] == '%':
			at += run(text[at:], isComment)
		default:
			return at
		}
	}
	return at
}

// first is the token at the beginning of a text that is not empty; false if there is none, or a faulty one.
func first(text string) (api.Token, bool) {
	switch c := text[0]; {
	case isLower(c):
		return word(api.TokName, text)
	case isUpper(c) || c == '_':
		return word(api.TokVar, text)
	case isDigit(c) || c == '-':
		return number(text)
	}
	return mark(text)
}

// word is the name or variable at the beginning of a text.
func word(kind int, text string) (api.Token, bool) {
	size := 1 + run(text[1:], inWord)
	if size > api.MaxName {
		return api.Token{}, false
	}
	return token(kind, text[:size]), true
}

// number is the int at the beginning of a text.
func number(text string) (api.Token, bool) {
	size := 1 + run(text[1:], isDigit)
	if size < len(text) && inWord(text[size]) {
		return api.Token{}, false
	}
	n, err := strconv.Atoi(text[:size])
	// An int has one spelling alone: leading zeros and -0 are not how Itoa writes it.
	if err != nil || strconv.Itoa(n) != text[:size] {
		return api.Token{}, false
	}
	tok := token(api.TokInt, text[:size])
	tok.Int = n
	return tok, true
}

// mark is the mark at the beginning of a text.
func mark(text string) (api.Token, bool) {
	if strings.HasPrefix(text, ":-") {
		return token(api.TokMark, ":-"), true
	}
	if strings.IndexByte("(),.;|=", text[0]) < 0 {
		return api.Token{}, false
	}
	return token(api.TokMark, text[:1]), true
}

// token copies its text, so that a token that is kept does not keep the whole source.
func token(kind int, text string) api.Token {
	return api.Token{Kind: kind, Text: strings.Clone(text)}
}

// run is how many bytes at the beginning of a text are of a kind.
func run(text string, is func(byte) bool) int {
	size := 0
	for size < len(text) && is(text[size]) {
		size++
	}
	return size
}

func isBlank(c byte) bool   { return c == 9 || c == 10 || c == 13 || c == 32 }
func isComment(c byte) bool { return c != 10 }
func isLower(c byte) bool   { return 'a' <= c && c <= 'z' }
func isUpper(c byte) bool   { return 'A' <= c && c <= 'Z' }
func isDigit(c byte) bool   { return '0' <= c && c <= '9' }
func inWord(c byte) bool    { return isLower(c) || isUpper(c) || isDigit(c) || c == '_' }
