// Package syntax reads expressions from texts that consist of one, or that have expressions among other things.
package syntax

import (
	"slices"

	"inequality/api"
	"inequality/halt"
)

// Reader reads a text token by token. The reading ends at the first error of the text, by a panic that Read recovers.
type Reader struct {
	tokens []Token // ends with the one for the end of the text
	next   int     // the index of the token that is to be read
	args   []arg   // in the order of the text, as the variables
	vars   []Token
	fault  int // the offset of the error
}

// Read returns what read makes of a text, or the offset of the first error and the error. The signs are those that the text may have beside the ones of expressions; one that begins with another one stands in front of it.
func Read[T any](s string, read func(r *Reader) T, signs ...string) (T, int, api.Errno) {
	r := &Reader{}
	result, err := halt.Run(func() T {
		r.open(s, signs)
		return read(r)
	})
	return result, r.fault, err
}

// Unless ends the reading with the error err at this offset if ok is false.
func (r *Reader) Unless(ok bool, at int, err api.Errno) {
	if !ok {
		r.fault = at
	}
	halt.Unless(ok, err)
}

// open finds the tokens of the text.
func (r *Reader) open(s string, signs []string) {
	r.Unless(len(s) <= api.MaxText, 0, api.ErrLimit)
	tokens, at, ok := scan(s, signs)
	r.Unless(ok, at, api.ErrSyntax)
	r.tokens = tokens
}

// At returns the offset of the next token.
func (r *Reader) At() int {
	return r.tokens[r.next].At
}

// Take returns the next token and goes on to the one behind it, if there is one.
func (r *Reader) Take() Token {
	t := r.tokens[r.next]
	if t.Kind != End {
		r.next++
	}
	return t
}

// Accept takes the next token if it is this mark, and reports whether it was.
func (r *Reader) Accept(mark string) bool {
	if r.tokens[r.next].Text != mark {
		return false
	}
	r.Take()
	return true
}

// Expect takes the next token, which has to be this mark.
func (r *Reader) Expect(mark string) {
	t := r.Take()
	r.Require(t.Text == mark, t)
}

// Require ends the reading with ErrSyntax if ok is false: the token t cannot stand at its place.
func (r *Reader) Require(ok bool, t Token) {
	r.Unless(ok, t.At, api.ErrSyntax)
}

// Close ends the reading with an error if the next token is not the end of the text, or if one of its numbers cannot stand. Until then the numbers that are read need not be right.
func (r *Reader) Close() {
	t := r.Take()
	r.Require(t.Kind == End, t)
	numbers := slices.DeleteFunc(slices.Clone(r.tokens), func(t Token) bool { return !t.IsNumber() })
	for _, t := range numbers {
		r.Unless(!t.isOverZero(), t.At, api.ErrZero)
	}
	for _, t := range numbers {
		r.Unless(!t.isLarge(), t.At, api.ErrSize)
	}
	for _, a := range r.args {
		r.Unless(!a.isOut(), a.at, api.ErrArg)
	}
}

// Vars returns the variables of the expressions that have been read, in the order of the text.
func (r *Reader) Vars() []Token {
	return r.vars
}
