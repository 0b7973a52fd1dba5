package claim

import (
	"cmp"
	"slices"

	"inequality/api"
	"inequality/expr"
	"inequality/halt"
	"inequality/interval"
	"inequality/number"
	"inequality/syntax"
)

// Parse returns the claim of a text and 0, or the offset of an error.
func Parse(s string) (api.Claim, int, api.Errno) {
	return syntax.Read(s, func(r *syntax.Reader) api.Claim { return reader{r}.claim() }, ">=", "<=", ">", "<", "[", "]")
}

// reader reads a claim, and the expressions in it as the reader of expressions does.
type reader struct {
	*syntax.Reader
}

// placed is something that has been read, and the offset of its first byte.
type placed[T any] struct {
	at    int
	value T
}

// claim reads a claim that is the whole text.
func (r reader) claim() api.Claim {
	first := r.rel()
	c := withGoal(api.Claim{}, first.E, first.Strict)
	var sides []placed[api.Side]
	var conds []placed[api.Cond]
	if r.Accept("for") {
		sides = list(r, r.side)
	}
	if r.Accept("where") {
		conds = list(r, r.rel)
	}
	r.Close()
	for _, s := range sides {
		c.Box = append(c.Box, s.value)
	}
	slices.SortFunc(c.Box, func(s, t api.Side) int { return cmp.Compare(s.Name, t.Name) })
	for _, k := range conds {
		c.Conds = append(c.Conds, k.value)
	}
	r.requireSmall(c)
	r.requireBox(sides)
	if len(conds) > api.MaxConds {
		r.Unless(false, conds[api.MaxConds].at, api.ErrLimit)
	}
	r.requireSides(c.Box)
	return c
}

// list reads things with commas between them, of which there is at least one.
func list[T any](r reader, read func() T) []placed[T] {
	var all []placed[T]
	for {
		at := r.At()
		all = append(all, placed[T]{at, read()})
		if !r.Accept(",") {
			return all
		}
	}
}

// rel reads what the grammar calls rel.
func (r reader) rel() api.Cond {
	a := r.Expr()
	sign := r.Take()
	r.Require(slices.Contains([]string{">=", "<=", ">", "<"}, sign.Text), sign)
	b := r.Expr()
	if sign.Text[0] == '<' {
		a, b = b, a
	}
	return api.Cond{E: difference(a, b), Strict: len(sign.Text) == 1}
}

// difference returns a - b, or a if b is the number 0.
func difference(a, b api.Expr) api.Expr {
	if b.Op == api.OpNum && halt.Must(number.Sign(b.Num)) == 0 {
		return a
	}
	return api.Expr{Op: api.OpSub, Kids: []api.Expr{a, b}}
}

// side reads what the grammar calls side.
func (r reader) side() api.Side {
	name := r.Take()
	r.Require(name.Kind == syntax.Name, name)
	r.Expect("in")
	var a api.Interval
	a.LoInf = r.Accept("(")
	if a.LoInf {
		r.Expect("-")
		r.Expect("inf")
	} else {
		r.Expect("[")
		a.Lo = r.bound()
	}
	r.Expect(",")
	a.HiInf = r.Accept("inf")
	if a.HiInf {
		r.Expect(")")
	} else {
		a.Hi = r.bound()
		r.Expect("]")
	}
	return api.Side{Name: name.Text, Iv: a}
}

// bound reads what the grammar calls bound. If the number cannot stand, Close ends the reading.
func (r reader) bound() api.Rat {
	negative := r.Accept("-")
	t := r.Take()
	r.Require(t.IsNumber(), t)
	x, _ := number.Parse(t.Text)
	if negative {
		x, _ = number.Neg(x)
	}
	return x
}

// requireSmall ends the reading if an expression of the claim is too large or too deep.
func (r reader) requireSmall(c api.Claim) {
	for _, k := range inequalities(c) {
		r.Unless(expr.Valid(k.E), 0, api.ErrLimit)
	}
}

// requireBox ends the reading at a side that cannot be one of a box, beside those in front of it.
func (r reader) requireBox(sides []placed[api.Side]) {
	seen := map[string]bool{}
	for i, s := range sides {
		empty := halt.Must(interval.IsEmpty(s.value.Iv))
		r.Unless(i < api.MaxSides && !seen[s.value.Name] && !empty, s.at, api.ErrBox)
		seen[s.value.Name] = true
	}
}

// requireSides ends the reading at a variable that is not the name of a side.
func (r reader) requireSides(b []api.Side) {
	for _, t := range r.Vars() {
		r.Unless(hasSide(b, t.Text), t.At, api.ErrVar)
	}
}
