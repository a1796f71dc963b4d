package parser

import (
	"strconv"
	"strings"

	"innkeeper/api"
)

// fault is what is wrong with a source, and in which line.
type fault struct {
	e    api.Errno
	line int
}

// attempt returns what is read, or the fault with which reading it panics.
func attempt[T any](read func() T) (found T, wrong fault) {
	defer func() {
		if x := recover(); x != nil {
			wrong = x.(fault)
		}
	}()
	return read(), fault{}
}

// parser reads tokens, the first ones of which have been read already. Its methods panic with a fault where the tokens are wrong.
type parser struct {
	operators map[operator]int
	tokens    []api.Token
	read      int
}

// parserOf returns a parser that has read none of its tokens.
func parserOf(tokens []api.Token) *parser {
	return &parser{operators: operators(), tokens: tokens}
}

// ended reports whether all tokens have been read.
func (p *parser) ended() bool {
	return p.read == len(p.tokens)
}

// next returns the next token. After the last one there is one without a text, in the same line.
func (p *parser) next() api.Token {
	if !p.ended() {
		return p.tokens[p.read]
	}
	if p.read == 0 {
		return api.Token{}
	}
	return api.Token{Line: p.tokens[p.read-1].Line}
}

// refuse panics, as the next token cannot follow.
func (p *parser) refuse() {
	panic(fault{api.ErrSyntax, p.next().Line})
}

// is reports whether the next token has a text, and reads it if so.
func (p *parser) is(text string) bool {
	if p.next().Text != text {
		return false
	}
	p.read++
	return true
}

// need reads the next token, which has to have a text.
func (p *parser) need(text string) {
	if !p.is(text) {
		p.refuse()
	}
}

// number reads a number.
func (p *parser) number() int {
	t := p.next()
	if t.Kind != api.TokNumber {
		p.refuse()
	}
	p.read++
	return digits(t.Text)
}

// after reads a word, and a number after it.
func (p *parser) after(word string) int {
	p.need(word)
	return p.number()
}

// digits returns the number that the digits of a text say together: of money these are cents.
func digits(text string) int {
	// No token of these kinds has a number that is too long.
	n, _ := strconv.Atoi(strings.Replace(text, ".", "", 1))
	return n
}
