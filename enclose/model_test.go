package enclose_test

import (
	"math/big"

	"inequality/api"
	"inequality/elem"
	"inequality/expr"
	"inequality/interval"
	"inequality/number"
)

// calc carries out the operations of the chapter one after the other. It keeps the first error; what it returns behind it means nothing.
type calc struct {
	p   int
	err api.Errno
}

// note keeps the error of an operation.
func note[T any](c *calc, x T, err api.Errno) T {
	if c.err == api.OK {
		c.err = err
		if err == api.ErrZero {
			c.err = api.ErrDomain
		}
	}
	return x
}

func (c *calc) add(a, b api.Interval) api.Interval {
	s, err := interval.Add(a, b, c.p)
	return note(c, s, err)
}

func (c *calc) sub(a, b api.Interval) api.Interval {
	s, err := interval.Sub(a, b, c.p)
	return note(c, s, err)
}

func (c *calc) mul(a, b api.Interval) api.Interval {
	s, err := interval.Mul(a, b, c.p)
	return note(c, s, err)
}

func (c *calc) point(x api.Rat) api.Interval {
	a, err := interval.Point(x)
	return note(c, a, err)
}

// operation returns the operation of a node, which is no leaf and no OpIf, on one or two intervals.
func (c *calc) operation(e api.Expr, k []api.Interval) api.Interval {
	var a api.Interval
	var err api.Errno
	switch e.Op {
	case api.OpNeg:
		a, err = interval.Neg(k[0])
	case api.OpAdd:
		a, err = interval.Add(k[0], k[1], c.p)
	case api.OpSub:
		a, err = interval.Sub(k[0], k[1], c.p)
	case api.OpMul:
		a, err = interval.Mul(k[0], k[1], c.p)
	case api.OpDiv:
		a, err = interval.Div(k[0], k[1], c.p)
	case api.OpPow:
		a, err = interval.Pow(k[0], e.Arg, c.p)
	case api.OpRoot:
		a, err = interval.Root(k[0], e.Arg, c.p)
	case api.OpCall:
		a, err = interval.Call(e.Arg, k[0], c.p)
	case api.OpAbs:
		a, err = interval.Abs(k[0])
	case api.OpMin:
		a, err = interval.Min(k[0], k[1])
	case api.OpMax:
		a, err = interval.Max(k[0], k[1])
	}
	return note(c, a, err)
}

// branches carries out an OpIf whose condition has the range k; kid forms its kids.
func (c *calc) branches(k api.Interval, kid func(i int) api.Interval) api.Interval {
	sign, err := interval.Sign(k)
	note(c, sign, err)
	if c.err != api.OK {
		return k
	}
	if sign == api.SignNeg {
		return kid(2)
	}
	yes := kid(1)
	if sign >= api.SignZero && sign <= api.SignPos || c.err != api.OK {
		return yes
	}
	no := kid(2)
	if c.err != api.OK {
		return no
	}
	a, err := interval.Hull(yes, no)
	return note(c, a, err)
}

// sideOf returns the interval of a side.
func sideOf(b []api.Side, name string) (int, api.Interval) {
	for i, s := range b {
		if s.Name == name {
			return i, s.Iv
		}
	}
	panic(name)
}

// natural is P5.5.
func (c *calc) natural(e api.Expr, b []api.Side) api.Interval {
	var a api.Interval
	var err api.Errno
	switch e.Op {
	case api.OpNum:
		a, err = interval.Round(api.Interval{Lo: e.Num, Hi: e.Num}, c.p)
		return note(c, a, err)
	case api.OpVar:
		_, side := sideOf(b, e.Name)
		a, err = interval.Round(side, c.p)
		return note(c, a, err)
	case api.OpPi:
		pi, err := elem.Pi(c.p)
		return note(c, api.Interval{Lo: pi.Lo, Hi: pi.Hi}, err)
	case api.OpIf:
		k := c.natural(e.Kids[0], b)
		return c.branches(k, func(i int) api.Interval { return c.natural(e.Kids[i], b) })
	}
	var k []api.Interval
	for _, kid := range e.Kids {
		k = append(k, c.natural(kid, b))
		if c.err != api.OK {
			return a
		}
	}
	return c.operation(e, k)
}

// derived returns the derivative of e with respect to the names, one after the other.
func (c *calc) derived(e api.Expr, names ...string) api.Expr {
	for _, name := range names {
		if c.err != api.OK {
			return e
		}
		var err api.Errno
		e, err = expr.Derive(e, name)
		note(c, e, err)
	}
	return e
}

// first returns the error that all forms but Range and Line begin with.
func (c *calc) smooth(e api.Expr) {
	if ok, err := expr.Smooth(e); !ok {
		err = api.ErrSmooth
		note(c, ok, err)
	}
}

// edge notes an unbounded side.
func (c *calc) edge(b []api.Side) {
	for _, s := range b {
		if s.Iv.LoInf || s.Iv.HiInf {
			note(c, 0, api.ErrEdge)
		}
	}
}

// gradient is P5.6 behind the errors of the derivatives.
func (c *calc) gradient(e api.Expr, b, over []api.Side) []api.Interval {
	var list []api.Interval
	for _, s := range b {
		if d := c.derived(e, s.Name); c.err == api.OK {
			list = append(list, c.natural(d, over))
		}
	}
	return list
}

// firsts and seconds note ErrLimit of the derivatives.
func (c *calc) firsts(e api.Expr, b []api.Side) {
	for _, s := range b {
		c.derived(e, s.Name)
	}
}

func (c *calc) seconds(e api.Expr, b []api.Side) {
	for i, s := range b {
		for _, t := range b[i:] {
			c.derived(e, s.Name, t.Name)
		}
	}
}

// hessian is P5.6 behind the errors of the derivatives.
func (c *calc) hessian(e api.Expr, b []api.Side) [][]api.Interval {
	m := make([][]api.Interval, len(b))
	for i := range b {
		m[i] = make([]api.Interval, len(b))
		for j := range b {
			if j < i {
				m[i][j] = m[j][i]
			} else if d := c.derived(e, b[i].Name, b[j].Name); c.err == api.OK {
				m[i][j] = c.natural(d, b)
			}
		}
	}
	return m
}

// around returns the box of the center and the spreads.
func (c *calc) around(b []api.Side) (middle []api.Side, spreads []api.Interval) {
	for _, s := range b {
		x, err := interval.Middle(s.Iv)
		note(c, x, err)
		middle = append(middle, api.Side{Name: s.Name, Iv: api.Interval{Lo: x, Hi: x}})
	}
	for i, s := range b {
		spreads = append(spreads, c.sub(s.Iv, middle[i].Iv))
	}
	return middle, spreads
}

// mean is P5.7.
func (c *calc) mean(e api.Expr, b []api.Side) api.Interval {
	c.smooth(e)
	c.edge(b)
	c.firsts(e, b)
	middle, d := c.around(b)
	g := c.gradient(e, b, b)
	if c.err != api.OK {
		return api.Interval{}
	}
	sum := c.natural(e, middle)
	for i := range b {
		sum = c.add(sum, c.mul(g[i], d[i]))
	}
	return sum
}

// taylor is P5.8.
func (c *calc) taylor(e api.Expr, b []api.Side) api.Interval {
	c.smooth(e)
	c.edge(b)
	c.firsts(e, b)
	c.seconds(e, b)
	middle, d := c.around(b)
	g := c.gradient(e, b, middle)
	h := c.hessian(e, b)
	if c.err != api.OK {
		return api.Interval{}
	}
	sum := c.natural(e, middle)
	for i := range b {
		sum = c.add(sum, c.mul(g[i], d[i]))
	}
	for i := range b {
		for j := i; j < len(b); j++ {
			q, f := c.mul(d[i], d[j]), rat("1")
			if i == j {
				square, err := interval.Pow(d[i], 2, c.p)
				q, f = note(c, square, err), rat("1/2")
			}
			sum = c.add(sum, c.mul(c.point(f), c.mul(h[i][j], q)))
		}
	}
	return sum
}

// spread is P5.10 behind the errors of the box and of l.
func (c *calc) spread(l api.Linear, d []api.Interval) api.Interval {
	sum, err := interval.Round(l.Const, c.p)
	note(c, sum, err)
	for i := range d {
		sum = c.add(sum, c.mul(c.point(l.Slopes[i]), d[i]))
	}
	return sum
}

// line is P5.9.
func (c *calc) line(e api.Expr, b []api.Side) api.Linear {
	c.edge(b)
	middle, d := c.around(b)
	if c.err != api.OK {
		return api.Linear{}
	}
	return c.form(e, b, middle, d)
}

// form is what P5.9 says of one node. The slopes of the last kinds are 0.
func (c *calc) form(e api.Expr, b, middle []api.Side, d []api.Interval) api.Linear {
	l := api.Linear{Slopes: make([]api.Rat, len(b))}
	kid := func(i int) api.Linear {
		if c.err != api.OK {
			return l
		}
		return c.form(e.Kids[i], b, middle, d)
	}
	spread := func(i int) api.Interval { return c.spread(kid(i), d) }
	switch e.Op {
	case api.OpNum, api.OpPi, api.OpVar:
		if l.Const = c.natural(e, middle); e.Op == api.OpVar {
			i, _ := sideOf(b, e.Name)
			l.Slopes[i] = rat("1")
		}
	case api.OpNeg, api.OpAdd, api.OpSub, api.OpMul:
		k := []api.Linear{kid(0)}
		if e.Op != api.OpNeg {
			k = append(k, kid(1))
		}
		if c.err != api.OK {
			return l
		}
		if e.Op == api.OpMul {
			return c.product(k[0], k[1], d)
		}
		return c.together(e, k)
	case api.OpIf:
		l.Const = c.branches(spread(0), spread)
	default:
		var k []api.Interval
		for i := range e.Kids {
			k = append(k, spread(i))
		}
		if c.err == api.OK {
			l.Const = c.operation(e, k)
		}
	}
	return l
}

// together forms an OpNeg, OpAdd or OpSub.
func (c *calc) together(e api.Expr, k []api.Linear) api.Linear {
	var consts []api.Interval
	for _, l := range k {
		consts = append(consts, l.Const)
	}
	l := api.Linear{Const: c.operation(e, consts)}
	for i := range k[0].Slopes {
		x := new(big.Rat)
		switch s := value(k[0].Slopes[i]); e.Op {
		case api.OpNeg:
			x.Neg(s)
		case api.OpAdd:
			x.Add(s, value(k[1].Slopes[i]))
		case api.OpSub:
			x.Sub(s, value(k[1].Slopes[i]))
		}
		slope, err := number.Canon(canonical(x)) // which has the error of a large number
		l.Slopes = append(l.Slopes, note(c, slope, err))
	}
	return l
}

// number carries out an operation on two numbers.
func (c *calc) number(op func(x, y api.Rat) (api.Rat, api.Errno), x, y api.Rat) api.Rat {
	z, err := op(x, y)
	return note(c, z, err)
}

// product forms an OpMul.
func (c *calc) product(a, b api.Linear, d []api.Interval) api.Linear {
	down := func(x api.Rat) api.Rat {
		y, err := number.Down(x, c.p)
		return note(c, y, err)
	}
	middle := func(a api.Interval) api.Rat {
		y, err := interval.Middle(a)
		return down(note(c, y, err))
	}
	m, n := middle(a.Const), middle(b.Const)
	l := api.Linear{}
	s, t := c.point(rat("0")), c.point(rat("0"))
	for i := range d {
		l.Slopes = append(l.Slopes, down(c.number(number.Add, c.number(number.Mul, m, b.Slopes[i]), c.number(number.Mul, n, a.Slopes[i]))))
	}
	l.Const = c.mul(a.Const, b.Const)
	for i := range d {
		si, ti := c.point(a.Slopes[i]), c.point(b.Slopes[i])
		e := c.sub(c.add(c.mul(a.Const, ti), c.mul(b.Const, si)), c.point(l.Slopes[i]))
		l.Const = c.add(l.Const, c.mul(e, d[i]))
		s, t = c.add(s, c.mul(si, d[i])), c.add(t, c.mul(ti, d[i]))
	}
	l.Const = c.add(l.Const, c.mul(s, t))
	return l
}
