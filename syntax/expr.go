package syntax

import (
	"strconv"

	"inequality/api"
	"inequality/elem"
	"inequality/number"
)

// arg is a DIGITS that becomes the Arg of a node, and the range that its number must have.
type arg struct {
	at, n, least, most int
}

// isOut reports whether the number is out of its range.
func (a arg) isOut() bool {
	return a.n < a.least || a.n > a.most
}

// node returns the node of a kind without Arg with these kids.
func node(op int, kids ...api.Expr) api.Expr {
	return api.Expr{Op: op, Kids: kids}
}

// indexed returns the node of a kind with this Arg and these kids.
func indexed(op, arg int, kids ...api.Expr) api.Expr {
	return api.Expr{Op: op, Arg: arg, Kids: kids}
}

// Expr reads what the grammar calls expr, of any size.
func (r *Reader) Expr() api.Expr {
	e := r.term()
	for {
		switch {
		case r.Accept("+"):
			e = node(api.OpAdd, e, r.term())
		case r.Accept("-"):
			e = node(api.OpSub, e, r.term())
		default:
			return e
		}
	}
}

// term reads what the grammar calls term.
func (r *Reader) term() api.Expr {
	e := r.factor()
	for {
		switch {
		case r.Accept("*"):
			e = node(api.OpMul, e, r.factor())
		case r.Accept("/"):
			e = node(api.OpDiv, e, r.factor())
		default:
			return e
		}
	}
}

// factor reads what the grammar calls factor.
func (r *Reader) factor() api.Expr {
	if r.Accept("-") {
		return node(api.OpNeg, r.factor())
	}
	return r.power()
}

// power reads what the grammar calls power.
func (r *Reader) power() api.Expr {
	base := r.atom()
	if !r.Accept("^") {
		return base
	}
	negative := r.Accept("-")
	n := r.digits(0, api.MaxPow)
	if negative {
		n = -n
	}
	return indexed(api.OpPow, n, base)
}

// digits reads a DIGITS whose number must be from least to most.
func (r *Reader) digits(least, most int) int {
	t := r.Take()
	r.Require(t.Kind == Digits, t)
	n, _ := strconv.Atoi(t.Text) // the greatest int, if it is greater
	r.args = append(r.args, arg{t.At, n, least, most})
	return n
}

// atom reads what the grammar calls atom.
func (r *Reader) atom() api.Expr {
	t := r.Take()
	switch {
	case t.IsNumber():
		v, _ := number.Parse(t.Text)
		return api.Expr{Op: api.OpNum, Num: v}
	case t.Kind == Name:
		r.vars = append(r.vars, t)
		return api.Expr{Op: api.OpVar, Name: t.Text}
	}
	return r.marked(t)
}

// marked reads the atom that begins with the mark t, behind it.
func (r *Reader) marked(t Token) api.Expr {
	switch t.Text {
	case "(":
		e := r.Expr()
		r.Expect(")")
		return e
	case "pi":
		return node(api.OpPi)
	case "abs":
		return node(api.OpAbs, r.kids(1)...)
	case "min":
		return node(api.OpMin, r.kids(2)...)
	case "max":
		return node(api.OpMax, r.kids(2)...)
	case "if":
		return node(api.OpIf, r.kids(3)...)
	case "sqrt":
		return indexed(api.OpRoot, 2, r.kids(1)...)
	case "root":
		return r.root()
	}
	fn, ok := elem.Find(t.Text)
	r.Require(ok, t)
	return indexed(api.OpCall, fn, r.kids(1)...)
}

// root reads a root with an index, behind the word.
func (r *Reader) root() api.Expr {
	r.Expect("(")
	index := r.digits(2, api.MaxRoot)
	r.Expect(",")
	e := r.Expr()
	r.Expect(")")
	return indexed(api.OpRoot, index, e)
}

// kids reads a number of expressions in parentheses.
func (r *Reader) kids(count int) []api.Expr {
	var list []api.Expr
	before := "("
	for range count {
		r.Expect(before)
		list = append(list, r.Expr())
		before = ","
	}
	r.Expect(")")
	return list
}
