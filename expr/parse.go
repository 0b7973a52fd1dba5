package expr

import (
	"slices"
	"strconv"

	"inequality/api"
	"inequality/elem"
	"inequality/number"
)

// Parse returns the expression of a text and 0, or the offset of an error.
func Parse(s string) (api.Expr, int, api.Errno) {
	if len(s) > api.MaxText {
		return api.Expr{}, 0, api.ErrLimit
	}
	tokens, at, ok := scan(s)
	if !ok {
		return api.Expr{}, at, api.ErrSyntax
	}
	p := parser{rest: tokens}
	e := p.text()
	if p.failed {
		return api.Expr{}, p.at, api.ErrSyntax
	}
	at, err := fault(tokens, p.args)
	if err != api.OK {
		return api.Expr{}, at, err
	}
	e, err = result(e)
	return e, 0, err
}

// fault returns the offset of the first number that has an error and the error, or 0 and OK.
func fault(tokens []token, args []arg) (int, api.Errno) {
	numbers := slices.DeleteFunc(slices.Clone(tokens), func(t token) bool { return !t.isNumber() })
	if i := slices.IndexFunc(numbers, token.isOverZero); i >= 0 {
		return numbers[i].at, api.ErrZero
	}
	if i := slices.IndexFunc(numbers, token.isLarge); i >= 0 {
		return numbers[i].at, api.ErrSize
	}
	if i := slices.IndexFunc(args, arg.isOut); i >= 0 {
		return args[i].at, api.ErrArg
	}
	return 0, api.OK
}

// parser reads an expression from tokens. A token that cannot stand at its place makes it go on to the end of the text, where all of its methods return; what they return then is not used.
type parser struct {
	rest   []token // ends with the token for the end of the text
	failed bool
	at     int   // the offset of the token that failed
	args   []arg // in the order of the text
}

// arg is a DIGITS that becomes the Arg of a node, and the range that its number must have.
type arg struct {
	at, n, least, most int
}

// isOut reports whether the number is out of its range.
func (a arg) isOut() bool {
	return a.n < a.least || a.n > a.most
}

// take returns the next token and goes on to the one behind it, if there is one.
func (p *parser) take() token {
	t := p.rest[0]
	if t.kind != endToken {
		p.rest = p.rest[1:]
	}
	return t
}

// accept takes the next token if it is this mark, and reports whether it was.
func (p *parser) accept(mark string) bool {
	if p.rest[0].text != mark {
		return false
	}
	p.take()
	return true
}

// expect takes the next token, which has to be this mark.
func (p *parser) expect(mark string) {
	if t := p.take(); t.text != mark {
		p.reject(t)
	}
}

// reject tells that a token cannot stand at its place. The first one counts.
func (p *parser) reject(t token) {
	if !p.failed {
		p.failed, p.at = true, t.at
	}
	p.rest = p.rest[len(p.rest)-1:]
}

// text reads an expression that is the whole text.
func (p *parser) text() api.Expr {
	e := p.expr()
	if t := p.take(); t.kind != endToken {
		p.reject(t)
	}
	return e
}

// expr reads what the grammar calls expr.
func (p *parser) expr() api.Expr {
	e := p.term()
	for {
		switch {
		case p.accept("+"):
			e = node(api.OpAdd, e, p.term())
		case p.accept("-"):
			e = node(api.OpSub, e, p.term())
		default:
			return e
		}
	}
}

// term reads what the grammar calls term.
func (p *parser) term() api.Expr {
	e := p.factor()
	for {
		switch {
		case p.accept("*"):
			e = node(api.OpMul, e, p.factor())
		case p.accept("/"):
			e = node(api.OpDiv, e, p.factor())
		default:
			return e
		}
	}
}

// factor reads what the grammar calls factor.
func (p *parser) factor() api.Expr {
	if p.accept("-") {
		return node(api.OpNeg, p.factor())
	}
	return p.power()
}

// power reads what the grammar calls power.
func (p *parser) power() api.Expr {
	base := p.atom()
	if !p.accept("^") {
		return base
	}
	negative := p.accept("-")
	n := p.digits(0, api.MaxPow)
	if negative {
		n = -n
	}
	return indexed(api.OpPow, n, base)
}

// digits reads a DIGITS whose number must be from least to most.
func (p *parser) digits(least, most int) int {
	t := p.take()
	if t.kind != digitsToken {
		p.reject(t)
		return 0
	}
	n, _ := strconv.Atoi(t.text) // the greatest int, if it is greater
	p.args = append(p.args, arg{t.at, n, least, most})
	return n
}

// atom reads what the grammar calls atom.
func (p *parser) atom() api.Expr {
	t := p.take()
	switch t.kind {
	case digitsToken, fractionToken:
		v, _ := number.Parse(t.text)
		return literal(v)
	case nameToken:
		return variable(t.text)
	case markToken:
		return p.marked(t)
	}
	p.reject(t)
	return api.Expr{}
}

// marked reads the atom that begins with the mark t, behind it.
func (p *parser) marked(t token) api.Expr {
	switch t.text {
	case "(":
		e := p.expr()
		p.expect(")")
		return e
	case "pi":
		return node(api.OpPi)
	case "abs":
		return node(api.OpAbs, p.kids(1)...)
	case "min":
		return node(api.OpMin, p.kids(2)...)
	case "max":
		return node(api.OpMax, p.kids(2)...)
	case "if":
		return node(api.OpIf, p.kids(3)...)
	case "sqrt":
		return indexed(api.OpRoot, 2, p.kids(1)...)
	case "root":
		p.expect("(")
		index := p.digits(2, api.MaxRoot)
		p.expect(",")
		e := p.expr()
		p.expect(")")
		return indexed(api.OpRoot, index, e)
	}
	if fn, ok := elem.Find(t.text); ok {
		return indexed(api.OpCall, fn, p.kids(1)...)
	}
	p.reject(t)
	return api.Expr{}
}

// kids reads a number of expressions in parentheses.
func (p *parser) kids(count int) []api.Expr {
	var list []api.Expr
	before := "("
	for range count {
		p.expect(before)
		list = append(list, p.expr())
		before = ","
	}
	p.expect(")")
	return list
}
