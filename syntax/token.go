package syntax

import (
	"strings"

	"inequality/api"
	"inequality/elem"
	"inequality/number"
)

// Kinds of tokens.
const (
	noToken  = iota
	Digits   // a NUMBER that consists of digits alone
	Fraction // any other NUMBER
	Name     // the name of a variable
	Mark     // a reserved word or a sign
	End      // the end of the text
)

// Token is a token and its place in the text.
type Token struct {
	Kind int
	Text string
	At   int
}

// words are the reserved words that are not names of functions.
var words = [...]string{"pi", "abs", "min", "max", "root", "sqrt", "if", "inf", "for", "in", "where"}

// isReserved reports whether a word is none that a variable may have as its name.
func isReserved(word string) bool {
	for _, reserved := range words {
		if word == reserved {
			return true
		}
	}
	_, isFunction := elem.Find(word)
	return isFunction
}

// IsName reports whether s is the name of a variable.
func IsName(s string) bool {
	return len(s) <= api.MaxName && len(s) > 0 && wordLength(s) == len(s) && !isReserved(s)
}

// scan returns the tokens of a text with one more for its end, and true; or the offset at which no token begins, and false. The signs are those that the text may have beside the ones of expressions; one that begins with another one stands in front of it.
func scan(s string, signs []string) ([]Token, int, bool) {
	var list []Token
	at := 0
	for {
		at += prefix(s[at:], func(c byte) bool { return c == ' ' })
		if at == len(s) {
			return append(list, Token{End, "", at}), 0, true
		}
		kind, length := first(s[at:], signs)
		if kind == noToken {
			return nil, at, false
		}
		list = append(list, Token{kind, s[at : at+length], at})
		at += length
	}
}

// first returns the kind and the length of the token at the beginning of s, which is not empty.
func first(s string, signs []string) (kind, length int) {
	switch c := s[0]; {
	case isDigit(c):
		return numeral(s)
	case isLetter(c):
		return word(s)
	case strings.IndexByte("+-*/^(),", c) >= 0:
		return Mark, 1
	}
	for _, sign := range signs {
		if strings.HasPrefix(s, sign) {
			return Mark, len(sign)
		}
	}
	return noToken, 0
}

// numeral returns the kind and the length of the NUMBER at the beginning of s.
func numeral(s string) (kind, length int) {
	n := prefix(s, isDigit)
	if n < len(s) && (s[n] == '.' || s[n] == '/') {
		if more := prefix(s[n+1:], isDigit); more > 0 {
			return Fraction, n + 1 + more
		}
	}
	return Digits, n
}

// word returns the kind and the length of the word at the beginning of s.
func word(s string) (kind, length int) {
	n := wordLength(s)
	switch {
	case isReserved(s[:n]):
		return Mark, n
	case IsName(s[:n]):
		return Name, n
	}
	return noToken, 0
}

// wordLength returns the length of the word at the beginning of s, 0 if there is none.
func wordLength(s string) int {
	if s == "" || !isLetter(s[0]) {
		return 0
	}
	return prefix(s, func(c byte) bool { return isLetter(c) || isDigit(c) })
}

// prefix returns the number of bytes at the beginning of s that belong to a class.
func prefix(s string, class func(c byte) bool) int {
	n := 0
	for n < len(s) && class(s[n]) {
		n++
	}
	return n
}

// isDigit reports whether c is a decimal digit.
func isDigit(c byte) bool {
	return c >= '0' && c <= '9'
}

// isLetter reports whether c is a lower-case letter.
func isLetter(c byte) bool {
	return c >= 'a' && c <= 'z'
}

// IsNumber reports whether a token is a NUMBER.
func (t Token) IsNumber() bool {
	return t.Kind == Digits || t.Kind == Fraction
}

// isOverZero reports whether the digits after the slash of a NUMBER denote 0, however many they are.
func (t Token) isOverZero() bool {
	_, below, ok := strings.Cut(t.Text, "/")
	return ok && strings.Trim(below, "0") == ""
}

// isLarge reports whether a NUMBER is large or has too many bytes.
func (t Token) isLarge() bool {
	_, err := number.Parse(t.Text)
	return err == api.ErrLimit || err == api.ErrSize
}
