package check

import (
	"slices"
	"strconv"

	"inequality/api"
	"inequality/expr"
	"inequality/natural"
	"inequality/number"
)

// The fields of a step that rules may use.
const (
	fieldName = iota
	fieldOther
	fieldEntry
	fieldAt
	fieldK
	fieldN
	fieldPrec
	fieldVer
	fieldE
	fieldPoint
	fieldArgs
)

// field tells of one field of a step.
type field struct {
	isZero     func(s api.Step) bool // as it must be if the rule does not use it
	isRight    func(s api.Step) bool // well formed, if the rule uses it
	isWritable func(s api.Step) bool // so that it has a text, if it is right
	text       func(s api.Step) string
	read       func(s *api.Step, l *line)
}

// kind tells the same of the values that fields of one type may have.
type kind[T any] struct {
	isZero, isRight, isWritable func(x T) bool
	text                        func(x T) string
	read                        func(l *line) T
}

// fieldOf returns the field at a place of steps, whose values are of this kind.
func fieldOf[T any](k kind[T], place func(s *api.Step) *T) field {
	return field{
		isZero:     func(s api.Step) bool { return k.isZero(*place(&s)) },
		isRight:    func(s api.Step) bool { return k.isRight(*place(&s)) },
		isWritable: func(s api.Step) bool { return k.isWritable(*place(&s)) },
		text:       func(s api.Step) string { return k.text(*place(&s)) },
		read:       func(s *api.Step, l *line) { *place(s) = k.read(l) },
	}
}

// fields returns the fields by their numbers.
func fields() []field {
	name := kind[string]{isEmpty, always, expr.IsName, ownText, (*line).word}
	integer := kind[int]{isNothing, always, isNatural, strconv.Itoa, (*line).integer}
	return []field{
		fieldName:  fieldOf(name, func(s *api.Step) *string { return &s.Name }),
		fieldOther: fieldOf(name, func(s *api.Step) *string { return &s.Other }),
		fieldEntry: fieldOf(name, func(s *api.Step) *string { return &s.Entry }),
		fieldAt:    fieldOf(kind[api.Rat]{isZero, isSmall, always, numberText, (*line).number}, func(s *api.Step) *api.Rat { return &s.At }),
		fieldK:     fieldOf(integer, func(s *api.Step) *int { return &s.K }),
		fieldN:     fieldOf(integer, func(s *api.Step) *int { return &s.N }),
		fieldPrec:  fieldOf(integer, func(s *api.Step) *int { return &s.Prec }),
		fieldVer:   fieldOf(integer, func(s *api.Step) *int { return &s.Ver }),
		fieldE:     fieldOf(kind[api.Expr]{isNoExpr, expr.Valid, always, bracedText, (*line).expr}, func(s *api.Step) *api.Expr { return &s.E }),
		fieldPoint: fieldOf(kind[[]api.Value]{hasNone, areValues, areNamedValues, pointText, (*line).point}, func(s *api.Step) *[]api.Value { return &s.Point }),
		fieldArgs:  fieldOf(kind[[]api.Bind]{hasNone, areBinds, areNamedBinds, bindsText, (*line).binds}, func(s *api.Step) *[]api.Bind { return &s.Args }),
	}
}

// isWellFormed reports whether a step is well formed, whatever its kids are.
func isWellFormed(s api.Step) bool {
	r, ok := ruleOf(s.Rule)
	if !ok || len(s.Kids) != r.kids {
		return false
	}
	for i, f := range fields() {
		isRight := f.isZero
		if slices.Contains(r.fields, i) {
			isRight = f.isRight
		}
		if !isRight(s) {
			return false
		}
	}
	return true
}

// isWritable reports whether all fields of a well-formed step have texts.
func isWritable(s api.Step) bool {
	return !slices.ContainsFunc(used(s.Rule), func(f field) bool { return !f.isWritable(s) })
}

// used returns the fields that a rule uses, in the order of their texts.
func used(rule int) []field {
	r, _ := ruleOf(rule)
	table := fields()
	var list []field
	for _, i := range r.fields {
		list = append(list, table[i])
	}
	return list
}

// always is what a value fulfils that nothing is asked of.
func always[T any](T) bool {
	return true
}

// hasNone reports whether a list is empty.
func hasNone[T any](list []T) bool {
	return len(list) == 0
}

// all reports whether a list has at most MaxSides elements, and each of them is right.
func all[T any](list []T, isRight func(x T) bool) bool {
	return len(list) <= api.MaxSides && !slices.ContainsFunc(list, func(x T) bool { return !isRight(x) })
}

func isEmpty(s string) bool {
	return s == ""
}

func isNothing(n int) bool {
	return n == 0
}

func isNatural(n int) bool {
	return n >= 0
}

// isSmall reports whether x is not large.
func isSmall(x api.Rat) bool {
	_, err := number.Sign(x)
	return err == api.OK
}

// isZero reports whether x denotes 0 and is not large.
func isZero(x api.Rat) bool {
	sign, err := number.Sign(x)
	return err == api.OK && sign == 0
}

// isNoExpr reports whether e is the expression of a step that has none.
func isNoExpr(e api.Expr) bool {
	return e.Op == 0 && e.Arg == 0 && natural.Of(e.Num.Num).IsZero() && e.Name == "" && len(e.Kids) == 0
}

// areValues reports whether the values of a step are right.
func areValues(list []api.Value) bool {
	return all(list, func(v api.Value) bool { return isSmall(v.Num) })
}

// areNamedValues reports whether the values of a list have names.
func areNamedValues(list []api.Value) bool {
	return all(list, func(v api.Value) bool { return expr.IsName(v.Name) })
}

// areBinds reports whether the binds of a step are right.
func areBinds(list []api.Bind) bool {
	return all(list, func(b api.Bind) bool { return expr.Valid(b.E) })
}

// areNamedBinds reports whether the binds of a list have names.
func areNamedBinds(list []api.Bind) bool {
	return all(list, func(b api.Bind) bool { return expr.IsName(b.Name) })
}
