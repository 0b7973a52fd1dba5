package expr_test

import (
	"slices"
	"strconv"
	"strings"

	"inequality/api"
)

// terms returns the form of a text such as `3; -1/2 x^2 y; 1 [1 / x]`: terms with their coefficient in front, factors with an exponent above 1 behind `^`, and atoms that are no names in brackets.
func terms(text string) []api.Term {
	var list []api.Term
	for part := range strings.SplitSeq(text, "; ") {
		if part == "" {
			continue
		}
		coef, rest, _ := strings.Cut(part, " ")
		term := api.Term{Coef: rat(coef)}
		for rest != "" {
			var atom string
			if rest[0] == '[' {
				atom, rest, _ = strings.Cut(rest[1:], "]")
			} else {
				end := strings.IndexAny(rest+" ", " ^")
				atom, rest = rest[:end], rest[end:]
			}
			exponent := 1
			if strings.HasPrefix(rest, "^") {
				end := strings.IndexAny(rest+" ", " ")
				exponent, _ = strconv.Atoi(rest[1:end])
				rest = rest[end:]
			}
			rest = strings.TrimPrefix(rest, " ")
			term.Factors = append(term.Factors, api.Factor{Atom: atom, Exp: exponent})
		}
		list = append(list, term)
	}
	return list
}

// showTerms returns the text of a form.
func showTerms(list []api.Term) string {
	var parts []string
	for _, term := range list {
		part := value(term.Coef).RatString()
		for _, f := range term.Factors {
			part += " [" + f.Atom + "]^" + strconv.Itoa(f.Exp)
		}
		parts = append(parts, part)
	}
	text := strings.Join(parts, "; ")
	if len(text) > 400 {
		return text[:400] + ".."
	}
	return text
}

// sameTerms reports whether two forms have the same terms in the same order, with canonical numbers.
func sameTerms(a, b []api.Term) bool {
	return slices.EqualFunc(a, b, func(s, t api.Term) bool {
		return sameRat(s.Coef, t.Coef) && slices.Equal(s.Factors, t.Factors)
	})
}

// before reports whether a list of factors comes before another one in a form.
func before(a, b []api.Factor) bool {
	for i := range b {
		switch {
		case i == len(a):
			return true
		case a[i].Atom != b[i].Atom:
			return a[i].Atom < b[i].Atom
		case a[i].Exp != b[i].Exp:
			return a[i].Exp < b[i].Exp
		}
	}
	return false
}

// sortedTerms returns terms in the order of a form.
func sortedTerms(list []api.Term) []api.Term {
	for i := range list {
		for j := i; j > 0 && before(list[j].Factors, list[j-1].Factors); j-- {
			list[j], list[j-1] = list[j-1], list[j]
		}
	}
	return list
}
