package number

import (
	"strings"

	"inequality/api"
	"inequality/fraction"
	"inequality/natural"
)

// Parse returns the number of a text: an optional sign, digits, and optionally a point or a slash and more digits.
func Parse(s string) (api.Rat, api.Errno) {
	if len(s) > api.MaxDigits {
		return api.Rat{}, api.ErrLimit
	}
	s, neg := strings.CutPrefix(s, "-")
	num, den, ok := ratio(s)
	switch {
	case !ok:
		return api.Rat{}, api.ErrSyntax
	case den.IsZero():
		return api.Rat{}, api.ErrZero
	}
	return fraction.New(neg, num, den).Rat()
}

// ratio returns the numerator and the denominator of a text without a sign, and whether it is the text of a number. The denominator may be 0.
func ratio(s string) (num, den natural.Nat, ok bool) {
	whole, rest := cutDigits(s)
	if whole == "" {
		return nil, nil, false
	}
	if rest == "" {
		return natural.FromDecimal(whole), natural.FromUint(1), true
	}
	more, end := cutDigits(rest[1:])
	if more == "" || end != "" {
		return nil, nil, false
	}
	switch rest[0] {
	case '.':
		return natural.FromDecimal(whole + more), natural.FromUint(10).Pow(len(more)), true
	case '/':
		return natural.FromDecimal(whole), natural.FromDecimal(more), true
	}
	return nil, nil, false
}

// cutDigits separates the digits at the beginning of s from what follows them.
func cutDigits(s string) (digits, rest string) {
	n := 0
	for n < len(s) && s[n] >= '0' && s[n] <= '9' {
		n++
	}
	return s[:n], s[n:]
}

// Format returns the text of x in lowest terms.
func Format(x api.Rat) (string, api.Errno) {
	a, err := fraction.Of(x)
	if err != api.OK {
		return "", err
	}
	text := a.Num().Decimal()
	if a.Sign() < 0 {
		text = "-" + text
	}
	if !a.Den().IsOne() {
		text += "/" + a.Den().Decimal()
	}
	return text, api.OK
}
