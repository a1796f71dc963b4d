package lexer

import (
	"strconv"
	"strings"

	"innkeeper/api"
)

const (
	// noKind is the kind of what is no token.
	noKind = 0
	// mostDigits bounds the digits of a number, and those before the point of money.
	mostDigits = 9
	// afterPoint is how many digits stand after the point of money.
	afterPoint = 2
	signs      = "{}();,+-*/<=%"
)

// kind is a kind of tokens, with what says whether a text is of this kind.
type kind struct {
	number int
	has    func(text string) bool
}

// kinds returns the kinds of tokens. No text is of two of them.
func kinds() []kind {
	return []kind{
		{api.TokName, func(text string) bool { return text != "" && run(text, isLetter) == len(text) }},
		{api.TokNumber, isNumber},
		{api.TokMoney, func(text string) bool {
			whole, part, _ := strings.Cut(text, ".")
			return isNumber(whole) && len(part) == afterPoint && isAmount(whole+part)
		}},
		{api.TokSign, func(text string) bool { return len(text) == 1 && strings.Contains(signs, text) }},
	}
}

// kindOf returns the kind of a text among those that are known, or noKind.
func kindOf(known []kind, text string) int {
	for _, k := range known {
		if k.has(text) {
			return k.number
		}
	}
	return noKind
}

// longest returns the text, as long as it can be, of the token with which a source begins; if no token begins there, the text is of no kind. The source is not empty.
func longest(s string) string {
	if n := run(s, isLetter); n > 0 {
		return s[:n]
	}
	n := run(s, isDigit)
	if n == 0 {
		return s[:1]
	}
	if strings.HasPrefix(s[n:], ".") {
		n += 1 + run(s[n+1:], isDigit)
	}
	return s[:n]
}

// run returns how many bytes the runes have with which a text begins, up to the first one that is not to be there.
func run(s string, is func(r rune) bool) int {
	for at, r := range s {
		if !is(r) {
			return at
		}
	}
	return len(s)
}

// isLetter reports whether a rune can stand in a name.
func isLetter(r rune) bool {
	return 'a' <= r && r <= 'z'
}

// isDigit reports whether a rune can stand in a number.
func isDigit(r rune) bool {
	return '0' <= r && r <= '9'
}

// isNumber reports whether a text is a number.
func isNumber(text string) bool {
	n := len(text)
	if n == 0 || n > mostDigits || run(text, isDigit) < n {
		return false
	}
	return n == 1 || text[0] != '0'
}

// isAmount reports whether a text that begins with a digit has nothing but digits, which are an amount as a number.
func isAmount(text string) bool {
	cents, wrong := strconv.Atoi(text)
	return wrong == nil && cents <= api.MaxCents
}
