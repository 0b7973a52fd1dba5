package expr

import (
	"cmp"
	"maps"
	"slices"
	"strconv"
	"strings"

	"inequality/api"
	"inequality/fraction"
)

// inverseOf is the beginning of the text of an atom that is the inverse of what follows.
const inverseOf = "1 / "

// form is a polynomial form: terms with coefficients other than 0, by texts of their factors.
type form map[string]term

// term is a term of a form. Its factors stand in ascending order of their atoms.
type term struct {
	coef    fraction.Fraction
	factors []api.Factor
}

// constant returns the form of the number v.
func constant(v fraction.Fraction) form {
	f := form{}
	f.add(term{coef: v})
	return f
}

// atom returns the form of the atom with this text, or ErrLimit if the text is too long.
func atom(text string) (form, api.Errno) {
	text, err := short(text)
	if err != api.OK {
		return nil, err
	}
	f := form{}
	f.add(term{fraction.FromInt(1), []api.Factor{{Atom: text, Exp: 1}}})
	return f, api.OK
}

// add adds a term to a form.
func (f form) add(t term) {
	key := t.key()
	if like, ok := f[key]; ok {
		t.coef = t.coef.Add(like.coef)
	}
	if t.coef.Sign() == 0 {
		delete(f, key)
		return
	}
	f[key] = t
}

// key returns a text that differs for terms with different factors. The texts of atoms have no line feeds.
func (t term) key() string {
	var key strings.Builder
	for _, f := range t.factors {
		key.WriteString(f.Atom + "\n" + strconv.Itoa(f.Exp) + "\n")
	}
	return key.String()
}

// number returns the number that the form is, or false if it is none or 0.
func (f form) number() (fraction.Fraction, bool) {
	t, ok := f[term{}.key()]
	return t.coef, ok && len(f) == 1
}

// negated returns the form of the opposite.
func (f form) negated() form {
	g := form{}
	for key, t := range f {
		g[key] = term{t.coef.Neg(), t.factors}
	}
	return g
}

// plus returns the form of the sum.
func (f form) plus(g form) form {
	sum := maps.Clone(f)
	for _, t := range g {
		sum.add(t)
	}
	return sum
}

// times returns the form of the product.
func (f form) times(g form) form {
	product := form{}
	for _, s := range f {
		for _, t := range g {
			product.add(term{s.coef.Mul(t.coef), multiply(s.factors, t.factors)})
		}
	}
	return product
}

// multiply returns the factors of a product of factors. A name and its inverse cancel each other.
func multiply(a, b []api.Factor) []api.Factor {
	exponents := map[string]int{}
	for _, f := range slices.Concat(a, b) {
		exponents[f.Atom] += f.Exp
	}
	atoms := slices.Sorted(maps.Keys(exponents))
	for _, atom := range atoms {
		if !IsName(atom) {
			continue
		}
		inverse := inverseOf + atom
		if common := min(exponents[atom], exponents[inverse]); common > 0 {
			exponents[atom] -= common
			exponents[inverse] -= common
		}
	}
	var factors []api.Factor
	for _, atom := range atoms {
		if n := exponents[atom]; n > 0 {
			factors = append(factors, api.Factor{Atom: atom, Exp: n})
		}
	}
	return factors
}

// within returns the form, or the error of its size.
func (f form) within() (form, api.Errno) {
	if len(f) > api.MaxTerms {
		return nil, api.ErrLimit
	}
	for _, t := range f {
		for _, factor := range t.factors {
			if factor.Exp > api.MaxDegree {
				return nil, api.ErrLimit
			}
		}
	}
	for _, t := range f {
		if t.coef.Large() {
			return nil, api.ErrSize
		}
	}
	return f, api.OK
}

// same reports whether the forms have the same terms.
func (f form) same(g form) bool {
	return maps.EqualFunc(f, g, func(s, t term) bool { return s.coef.Compare(t.coef) == 0 })
}

// list returns the terms in ascending order of their factors.
func (f form) list() ([]api.Term, api.Errno) {
	var terms []api.Term
	for _, t := range f {
		coef, err := t.coef.Rat()
		if err != api.OK {
			return nil, err
		}
		terms = append(terms, api.Term{Coef: coef, Factors: t.factors})
	}
	slices.SortFunc(terms, func(s, t api.Term) int { return slices.CompareFunc(s.Factors, t.Factors, compareFactors) })
	return terms, api.OK
}

// compareFactors orders factors by their atoms, and those with the same atom by their exponents.
func compareFactors(f, g api.Factor) int {
	return cmp.Or(strings.Compare(f.Atom, g.Atom), cmp.Compare(f.Exp, g.Exp))
}
