package claim_test

import (
	"fmt"
	"math/rand"
	"reflect"
	"slices"
	"strconv"
	"strings"
	"testing"

	"inequality/api"
	"inequality/claim"
	"inequality/expr"
	"inequality/number"
)

// rat returns the number of a text as in `-1/2`, or of `2^n` with an integer n from -4000 to 4000, perhaps with `-` in front and `-1` behind.
func rat(text string) api.Rat {
	size, neg := strings.CutPrefix(text, "-")
	size, ok := strings.CutPrefix(size, "2^")
	if !ok {
		x, err := number.Parse(text)
		if err != api.OK {
			panic(text)
		}
		return x
	}
	size, less := strings.CutSuffix(size, "-1")
	n, err := strconv.Atoi(size)
	if err != nil {
		panic(text)
	}
	power := append(make([]uint32, max(n, -n)/32), 1<<(max(n, -n)%32))
	if n < 0 {
		return api.Rat{Neg: neg, Num: []uint32{1}, Den: power}
	}
	if less { // for an n that is a multiple of 32 only
		power = slices.Repeat([]uint32{1<<32 - 1}, n/32)
	}
	return api.Rat{Neg: neg, Num: power}
}

// iv returns the interval of a text as in `[1/2, inf)`.
func iv(text string) api.Interval {
	lo, hi, ok := strings.Cut(strings.Trim(text, "[]()"), ", ")
	if !ok {
		panic(text)
	}
	var a api.Interval
	if a.LoInf = lo == "-inf"; !a.LoInf {
		a.Lo = rat(lo)
	}
	if a.HiInf = hi == "inf"; !a.HiInf {
		a.Hi = rat(hi)
	}
	return a
}

// box returns the box of a text as in `x [0, 1]; y [2, inf)`.
func box(text string) []api.Side {
	var b []api.Side
	for part := range strings.SplitSeq(text, "; ") {
		if name, rest, ok := strings.Cut(part, " "); ok {
			b = append(b, api.Side{Name: name, Iv: iv(rest)})
		}
	}
	return b
}

// pt returns the point of a text as in `x 1/2; y -3`.
func pt(text string) []api.Value {
	var at []api.Value
	for part := range strings.SplitSeq(text, "; ") {
		if name, rest, ok := strings.Cut(part, " "); ok {
			at = append(at, api.Value{Name: name, Num: rat(rest)})
		}
	}
	return at
}

// ex returns the expression of a text that has no error.
func ex(text string) api.Expr {
	e, at, err := expr.Parse(text)
	if err != api.OK {
		panic(text + ": error " + strconv.Itoa(int(err)) + " at " + strconv.Itoa(at))
	}
	return e
}

// rel returns the condition of a text as in `x - y > 0`: an expression, a sign and 0.
func rel(text string) api.Cond {
	left, strict := strings.CutSuffix(text, " > 0")
	if !strict {
		left = strings.TrimSuffix(text, " >= 0")
	}
	return api.Cond{E: ex(left), Strict: strict}
}

// made returns a claim from its parts, without the use of package claim.
func made(goal, sides string, conds ...string) api.Claim {
	g := rel(goal)
	c := api.Claim{Goal: g.E, Strict: g.Strict, Box: box(sides)}
	for _, k := range conds {
		c.Conds = append(c.Conds, rel(k))
	}
	return c
}

// cl returns the claim of a text that has no error.
func cl(text string) api.Claim {
	c, at, err := claim.Parse(text)
	if err != api.OK {
		panic(text + ": error " + strconv.Itoa(int(err)) + " at " + strconv.Itoa(at))
	}
	return c
}

// show returns a text of a claim, valid or not; long ones are cut off.
func show(c api.Claim) string {
	text, err := claim.Print(c)
	if err != api.OK {
		text = fmt.Sprint(c)
	}
	return cut(text)
}

// cut returns a text without what is too long for a message.
func cut(text string) string {
	if len(text) > 300 {
		return text[:300] + ".."
	}
	return text
}

// sameRat reports whether x and y have the same fields. An empty list and nil are the same.
func sameRat(x, y api.Rat) bool {
	return x.Neg == y.Neg && slices.Equal(x.Num, y.Num) && slices.Equal(x.Den, y.Den)
}

// sameIv reports whether a and b have the same fields.
func sameIv(a, b api.Interval) bool {
	return sameRat(a.Lo, b.Lo) && sameRat(a.Hi, b.Hi) && a.LoInf == b.LoInf && a.HiInf == b.HiInf
}

// sameExpr reports whether e and f have the same fields.
func sameExpr(e, f api.Expr) bool {
	return e.Op == f.Op && e.Arg == f.Arg && sameRat(e.Num, f.Num) && e.Name == f.Name && slices.EqualFunc(e.Kids, f.Kids, sameExpr)
}

// identical reports whether c and d have the same fields.
func identical(c, d api.Claim) bool {
	sides := slices.EqualFunc(c.Box, d.Box, func(s, t api.Side) bool { return s.Name == t.Name && sameIv(s.Iv, t.Iv) })
	conds := slices.EqualFunc(c.Conds, d.Conds, func(k, l api.Cond) bool { return k.Strict == l.Strict && sameExpr(k.E, l.E) })
	return sameExpr(c.Goal, d.Goal) && c.Strict == d.Strict && sides && conds
}

// expect checks that got is exactly want, or, if wantErr is an error, that got is zero.
func expect(t *testing.T, what string, got api.Claim, err api.Errno, want api.Claim, wantErr api.Errno) {
	t.Helper()
	if wantErr != api.OK {
		want = api.Claim{}
	}
	if err != wantErr || !identical(got, want) {
		t.Errorf("%s is %s, error %d; want %s, error %d", what, show(got), err, show(want), wantErr)
	}
}

// canonical returns a claim that differs from c, which is valid, in no more than how numbers are denoted, with canonical numbers.
func canonical(c api.Claim) api.Claim {
	exact := func(x api.Rat) api.Rat { y, _ := number.Canon(x); return y }
	d := api.Claim{Goal: mapRats(c.Goal, exact), Strict: c.Strict}
	for _, s := range c.Box {
		a := api.Interval{LoInf: s.Iv.LoInf, HiInf: s.Iv.HiInf}
		if !a.LoInf {
			a.Lo = exact(s.Iv.Lo)
		}
		if !a.HiInf {
			a.Hi = exact(s.Iv.Hi)
		}
		d.Box = append(d.Box, api.Side{Name: s.Name, Iv: a})
	}
	for _, k := range c.Conds {
		d.Conds = append(d.Conds, api.Cond{E: mapRats(k.E, exact), Strict: k.Strict})
	}
	return d
}

// mapRats returns e with other numbers.
func mapRats(e api.Expr, change func(x api.Rat) api.Rat) api.Expr {
	e.Num = change(e.Num)
	var kids []api.Expr
	for _, kid := range e.Kids {
		kids = append(kids, mapRats(kid, change))
	}
	e.Kids = kids
	return e
}

// disguised returns a number equal to x that is not canonical.
func disguised(x api.Rat) api.Rat {
	times := func(words []uint32) []uint32 {
		y, _ := number.Mul(api.Rat{Num: words}, number.FromInt(6))
		return append(slices.Clone(y.Num), 0, 0)
	}
	switch {
	case len(x.Num) == 0:
		return api.Rat{Neg: true, Den: []uint32{0, 7}}
	case len(x.Num) > 60 || len(x.Den) > 60:
		return api.Rat{Neg: x.Neg, Num: append(slices.Clone(x.Num), 0), Den: append(slices.Clone(x.Den), 0)}
	case len(x.Den) == 0:
		x.Den = []uint32{1}
	}
	return api.Rat{Neg: x.Neg, Num: times(x.Num), Den: times(x.Den)}
}

// disguisedIv returns an interval equal to a that is not canonical.
func disguisedIv(a api.Interval) api.Interval {
	b := api.Interval{Lo: disguised(a.Lo), Hi: disguised(a.Hi), LoInf: a.LoInf, HiInf: a.HiInf}
	if a.LoInf { // what is not looked at may be anything
		b.Lo = disguised(rat("7/3"))
	}
	if a.HiInf {
		b.Hi = disguised(rat("-9/5"))
	}
	return b
}

// disguisedClaim returns a claim equal to c that is not canonical.
func disguisedClaim(c api.Claim) api.Claim {
	d := api.Claim{Goal: mapRats(c.Goal, disguised), Strict: c.Strict}
	for _, s := range c.Box {
		d.Box = append(d.Box, api.Side{Name: s.Name, Iv: disguisedIv(s.Iv)})
	}
	for _, k := range c.Conds {
		d.Conds = append(d.Conds, api.Cond{E: mapRats(k.E, disguised), Strict: k.Strict})
	}
	return d
}

// disguisedPoint returns a point equal to at that is not canonical.
func disguisedPoint(at []api.Value) []api.Value {
	var list []api.Value
	for _, v := range at {
		list = append(list, api.Value{Name: v.Name, Num: disguised(v.Num)})
	}
	return list
}

// isZero reports whether a result is a zero value. An empty list and nil are the same.
func isZero(x any) bool {
	if c, ok := x.(api.Claim); ok {
		return identical(c, api.Claim{})
	}
	return reflect.ValueOf(x).IsZero()
}

// towerText returns the text of an expression of this depth, with as many nodes, in one variable.
func towerText(depth int, name string) string {
	return strings.Repeat("-", depth-1) + name
}

// fillerText returns the text of an expression with this number of nodes, of the least depth, in one variable.
func fillerText(nodes int, name string) string {
	switch nodes {
	case 1:
		return name
	case 2:
		return "-" + name
	}
	left := (nodes - 1) / 2
	return "(" + fillerText(left, name) + " + " + fillerText(nodes-1-left, name) + ")"
}

// repeated returns a text n times, with commas between them.
func repeated(text string, n int) string {
	return strings.Join(slices.Repeat([]string{text}, n), ", ")
}

// A source makes random claims in the variables x, y and z.
type source struct {
	*rand.Rand
	whole bool // expressions of all kinds; otherwise they are smooth and defined everywhere
}

// pick returns one of the texts.
func (s source) pick(texts ...string) string {
	return texts[s.Intn(len(texts))]
}

// expr returns the text of an expression of at most this depth in the variables among the names.
func (s source) expr(depth int, names []string) string {
	if depth <= 1 || s.Intn(8) == 0 {
		if len(names) > 0 && s.Intn(3) > 0 {
			return s.pick(names...)
		}
		return s.pick("0", "1", "2", "3", "1/2", "7/3", "pi")
	}
	a, b := "("+s.expr(depth-1, names)+")", "("+s.expr(depth-1, names)+")"
	forms := []string{a + " + " + b, a + " - " + b, a + " * " + b, "-" + a, a + "^2", a + "^" + strconv.Itoa(s.Intn(4)), "sin" + a}
	if s.whole {
		forms = append(forms, a+" / "+b, "exp"+a, "log"+a, "sqrt"+a, "root(3, "+a+")", "abs"+a, "min("+a+", "+b+")", "max("+a+", "+b+")", "if("+a+", "+b+", "+s.expr(depth-1, names)+")", a+"^-"+strconv.Itoa(s.Intn(3)), "atan"+a)
	}
	return s.pick(forms...)
}

// number returns a small number.
func (s source) number() api.Rat {
	x, _ := number.Div(number.FromInt(s.Intn(17)-8), number.FromInt([]int{1, 1, 1, 2, 4, 3}[s.Intn(6)]))
	return x
}

// interval returns an interval with small numbers, perhaps an unbounded one.
func (s source) interval() api.Interval {
	x, y := s.number(), s.number()
	if less, _ := number.Compare(y, x); less < 0 {
		x, y = y, x
	}
	switch s.Intn(8) {
	case 0:
		return api.Interval{Lo: x, HiInf: true}
	case 1:
		return api.Interval{Hi: x, LoInf: true}
	case 2:
		return api.Interval{LoInf: true, HiInf: true}
	case 3:
		return api.Interval{Lo: x, Hi: x}
	}
	return api.Interval{Lo: x, Hi: y}
}

// claim returns a valid claim.
func (s source) claim() api.Claim {
	names := []string{"x", "y", "z"}[:s.Intn(4)]
	c := api.Claim{Goal: ex(s.expr(4, names)), Strict: s.Intn(2) == 0}
	for _, name := range names {
		c.Box = append(c.Box, api.Side{Name: name, Iv: s.interval()})
	}
	for range s.Intn(4) {
		c.Conds = append(c.Conds, api.Cond{E: ex(s.expr(3, names)), Strict: s.Intn(2) == 0})
	}
	return c
}

// point returns a point with a value for each side of a box, which is often in it and often on an end.
func (s source) point(b []api.Side) []api.Value {
	var at []api.Value
	for _, side := range b {
		x := s.number()
		switch {
		case !side.Iv.LoInf && s.Intn(3) == 0:
			x = side.Iv.Lo
		case !side.Iv.HiInf && s.Intn(3) == 0:
			x = side.Iv.Hi
		case !side.Iv.LoInf && !side.Iv.HiInf:
			x, _ = number.Middle(side.Iv.Lo, side.Iv.Hi)
		}
		at = append(at, api.Value{Name: side.Name, Num: x})
	}
	return at
}

// sources calls visit with both kinds of sources, n times each.
func sources(seed int64, n int, visit func(s source)) {
	for i, whole := range []bool{false, true} {
		s := source{rand.New(rand.NewSource(seed + int64(i))), whole}
		for range n {
			visit(s)
		}
	}
}

// plus7 returns x + 7.
func plus7(x api.Rat) api.Rat {
	y, err := number.Add(x, number.FromInt(7))
	if err != api.OK {
		panic(err)
	}
	return y
}
