package enclose_test

import (
	"math/big"
	"math/rand"
	"slices"
	"strconv"
	"strings"
	"testing"

	"inequality/api"
	"inequality/expr"
	"inequality/interval"
)

// natural returns the sum of words[i] * 2^(32*i).
func natural(words []uint32) *big.Int {
	n := new(big.Int)
	for _, word := range slices.Backward(words) {
		n.Lsh(n, 32).Or(n, big.NewInt(int64(word)))
	}
	return n
}

// value returns what x denotes.
func value(x api.Rat) *big.Rat {
	num, den := natural(x.Num), natural(x.Den)
	if den.Sign() == 0 {
		den.SetInt64(1)
	}
	if x.Neg {
		num.Neg(num)
	}
	return new(big.Rat).SetFrac(num, den)
}

// words returns the words of the absolute value of n, without a most significant word 0.
func words(n *big.Int) []uint32 {
	var list []uint32
	for n = new(big.Int).Abs(n); n.Sign() > 0; n.Rsh(n, 32) {
		list = append(list, uint32(n.Uint64()))
	}
	return list
}

// canonical returns the canonical value of r, of any size.
func canonical(r *big.Rat) api.Rat {
	x := api.Rat{Neg: r.Sign() < 0, Num: words(r.Num())}
	if !r.IsInt() {
		x.Den = words(r.Denom())
	}
	return x
}

// power2 returns 2^n, also for n below 0.
func power2(n int) *big.Rat {
	p := new(big.Rat).SetInt(new(big.Int).Lsh(big.NewInt(1), uint(max(n, -n))))
	if n < 0 {
		p.Inv(p)
	}
	return p
}

// rational returns the number of a text in math/big's notation, or of `2^n` with an integer n and perhaps `-` in front or `-1` behind.
func rational(text string) *big.Rat {
	size, minus := strings.CutPrefix(text, "-2^")
	if size, ok := strings.CutPrefix(size, "2^"); ok || minus {
		size, less := strings.CutSuffix(size, "-1")
		n, err := strconv.Atoi(size)
		if err != nil {
			panic(text)
		}
		r := power2(n)
		if less {
			r.Sub(r, power2(0))
		}
		if minus {
			r.Neg(r)
		}
		return r
	}
	r, ok := new(big.Rat).SetString(text)
	if !ok {
		panic(text)
	}
	return r
}

// rat returns the number of a text, of any size.
func rat(text string) api.Rat {
	return canonical(rational(text))
}

// iv returns the interval of a text: `empty`, or two ends as in `[1/2, inf)`.
func iv(text string) api.Interval {
	if text == "empty" {
		return api.Interval{Lo: rat("1")}
	}
	lo, hi, ok := strings.Cut(strings.Trim(text, "[]()"), ", ")
	if !ok {
		panic(text)
	}
	var a api.Interval
	if a.LoInf = lo == "-inf"; !a.LoInf {
		a.Lo = rat(lo)
	}
	if a.HiInf = hi == "inf"; !a.HiInf {
		a.Hi = rat(hi)
	}
	return a
}

// ivs returns the intervals of a text as in `[0, 1]; [2, inf)`.
func ivs(text string) []api.Interval {
	var list []api.Interval
	for part := range strings.SplitSeq(text, "; ") {
		list = append(list, iv(part))
	}
	return list
}

// box returns the box of a text as in `x [0, 1]; y [2, inf)`.
func box(text string) []api.Side {
	var b []api.Side
	for part := range strings.SplitSeq(text, "; ") {
		if name, rest, ok := strings.Cut(part, " "); ok {
			b = append(b, api.Side{Name: name, Iv: iv(rest)})
		}
	}
	return b
}

// pt returns the point of a text as in `x 1/2; y -3`.
func pt(text string) []api.Value {
	var at []api.Value
	for part := range strings.SplitSeq(text, "; ") {
		if name, rest, ok := strings.Cut(part, " "); ok {
			at = append(at, api.Value{Name: name, Num: rat(rest)})
		}
	}
	return at
}

// ex returns the expression of a text that has no error.
func ex(text string) api.Expr {
	e, at, err := expr.Parse(text)
	if err != api.OK {
		panic(text + ": error " + strconv.Itoa(int(err)) + " at " + strconv.Itoa(at))
	}
	return e
}

// short returns a text of x in which a long number has only its beginning.
func short(x api.Rat) string {
	if s := value(x).RatString(); len(s) < 60 {
		return s
	}
	return value(x).FloatString(20)
}

// ivText returns the text of an interval.
func ivText(a api.Interval) string {
	lo, hi := "(-inf", "inf)"
	if !a.LoInf {
		lo = "[" + short(a.Lo)
	}
	if !a.HiInf {
		hi = short(a.Hi) + "]"
	}
	return lo + ", " + hi
}

// ivsText returns the text of a list of intervals.
func ivsText(list []api.Interval) string {
	var parts []string
	for _, a := range list {
		parts = append(parts, ivText(a))
	}
	return strings.Join(parts, "; ")
}

// boxText returns the text of a box.
func boxText(b []api.Side) string {
	var parts []string
	for _, s := range b {
		parts = append(parts, s.Name+" "+ivText(s.Iv))
	}
	return strings.Join(parts, "; ")
}

// ptText returns the text of a point.
func ptText(at []api.Value) string {
	var parts []string
	for _, v := range at {
		parts = append(parts, v.Name+" "+short(v.Num))
	}
	return strings.Join(parts, "; ")
}

// exText returns the text of a valid expression.
func exText(e api.Expr) string {
	text, _ := expr.Print(e)
	return text
}

// sameRat reports whether x and y have the same fields. An empty list and nil are the same.
func sameRat(x, y api.Rat) bool {
	return x.Neg == y.Neg && slices.Equal(x.Num, y.Num) && slices.Equal(x.Den, y.Den)
}

// sameIv reports whether a and b have the same fields.
func sameIv(a, b api.Interval) bool {
	return sameRat(a.Lo, b.Lo) && sameRat(a.Hi, b.Hi) && a.LoInf == b.LoInf && a.HiInf == b.HiInf
}

// sameBox reports whether a and b have the same fields.
func sameBox(a, b []api.Side) bool {
	return slices.EqualFunc(a, b, func(s, t api.Side) bool { return s.Name == t.Name && sameIv(s.Iv, t.Iv) })
}

// samePoint reports whether a and b have the same fields.
func samePoint(a, b []api.Value) bool {
	return slices.EqualFunc(a, b, func(v, w api.Value) bool { return v.Name == w.Name && sameRat(v.Num, w.Num) })
}

// expect checks that got is exactly want, or, if wantErr is an error, that got is zero.
func expect(t *testing.T, what string, got api.Interval, err api.Errno, want api.Interval, wantErr api.Errno) {
	t.Helper()
	if wantErr != api.OK {
		want = api.Interval{}
	}
	if err != wantErr || !sameIv(got, want) {
		t.Errorf("%s is %s, error %d; want %s, error %d", what, ivText(got), err, ivText(want), wantErr)
	}
}

// disguised returns a number equal to x that is not canonical.
func disguised(x api.Rat) api.Rat {
	v := value(x)
	y := api.Rat{Neg: x.Neg, Num: words(new(big.Int).Mul(v.Num(), big.NewInt(6))), Den: words(new(big.Int).Mul(v.Denom(), big.NewInt(6)))}
	if v.Sign() == 0 {
		y = api.Rat{Neg: true, Den: []uint32{0, 7}}
	}
	y.Num, y.Den = append(y.Num, 0, 0), append(y.Den, 0)
	return y
}

// disguisedIv returns an interval equal to a that is not canonical.
func disguisedIv(a api.Interval) api.Interval {
	b := api.Interval{Lo: disguised(a.Lo), Hi: disguised(a.Hi), LoInf: a.LoInf, HiInf: a.HiInf}
	if a.LoInf { // what is not looked at may be anything
		b.Lo = disguised(rat("7/3"))
	}
	if a.HiInf {
		b.Hi = disguised(rat("-9/5"))
	}
	return b
}

// disguisedBox returns a box equal to b that is not canonical.
func disguisedBox(b []api.Side) []api.Side {
	var list []api.Side
	for _, s := range b {
		list = append(list, api.Side{Name: s.Name, Iv: disguisedIv(s.Iv)})
	}
	return list
}

// disguisedExpr returns an expression equal to e that is not canonical.
func disguisedExpr(e api.Expr) api.Expr {
	var kids []api.Expr
	for _, kid := range e.Kids {
		kids = append(kids, disguisedExpr(kid))
	}
	e.Kids = kids
	e.Num = disguised(e.Num)
	return e
}

// has reports whether x is in a.
func has(a api.Interval, x *big.Rat) bool {
	return (a.LoInf || value(a.Lo).Cmp(x) <= 0) && (a.HiInf || x.Cmp(value(a.Hi)) <= 0)
}

// inside reports whether all numbers of a, which is not empty, are in b.
func inside(a, b api.Interval) bool {
	low := b.LoInf || !a.LoInf && value(b.Lo).Cmp(value(a.Lo)) <= 0
	high := b.HiInf || !a.HiInf && value(a.Hi).Cmp(value(b.Hi)) <= 0
	return low && high
}

// overlap reports whether a and b, which are not empty, have a number in common.
func overlap(a, b api.Interval) bool {
	meet, _ := interval.Meet(a, b)
	return meet.LoInf || meet.HiInf || value(meet.Lo).Cmp(value(meet.Hi)) <= 0
}

// smallNumber returns a number with a small numerator and a small denominator, which is often a power of 2.
func smallNumber(r *rand.Rand) *big.Rat {
	den := []int64{1, 1, 2, 4, 8, 3, 5, 7}[r.Intn(8)]
	return big.NewRat(int64(r.Intn(41)-20), den)
}

// randomIv returns an interval with small numbers: a point, or one that may be unbounded if bounded is false.
func randomIv(r *rand.Rand, bounded bool) api.Interval {
	x, y := smallNumber(r), smallNumber(r)
	if r.Intn(2) == 0 { // a narrow one
		y = new(big.Rat).Add(x, big.NewRat(int64(r.Intn(9)), 8))
	}
	if x.Cmp(y) > 0 {
		x, y = y, x
	}
	switch kind := r.Intn(9); {
	case kind == 0:
		return api.Interval{Lo: canonical(x), Hi: canonical(x)}
	case kind == 1 && !bounded:
		return [...]api.Interval{{Lo: canonical(x), HiInf: true}, {Hi: canonical(x), LoInf: true}, {LoInf: true, HiInf: true}}[r.Intn(3)]
	}
	return api.Interval{Lo: canonical(x), Hi: canonical(y)}
}

// randomBox returns a box whose sides are a, b, c, .. with small numbers.
func randomBox(r *rand.Rand, n int, bounded bool) []api.Side {
	var b []api.Side
	for i := range n {
		b = append(b, api.Side{Name: string(rune('a' + i)), Iv: randomIv(r, bounded)})
	}
	return b
}

// randomMember returns a number of a.
func randomMember(r *rand.Rand, a api.Interval) *big.Rat {
	far := big.NewRat(int64(r.Intn(1000)), 7)
	switch {
	case a.LoInf && a.HiInf:
		return new(big.Rat).Sub(far, big.NewRat(60, 1))
	case a.LoInf:
		return new(big.Rat).Sub(value(a.Hi), far)
	case a.HiInf:
		return new(big.Rat).Add(value(a.Lo), far)
	}
	share := big.NewRat(int64(r.Intn(9)), 8)
	length := new(big.Rat).Sub(value(a.Hi), value(a.Lo))
	return new(big.Rat).Add(value(a.Lo), length.Mul(length, share))
}

// randomPoint returns a point of b.
func randomPoint(r *rand.Rand, b []api.Side) []api.Value {
	var at []api.Value
	for _, s := range b {
		at = append(at, api.Value{Name: s.Name, Num: canonical(randomMember(r, s.Iv))})
	}
	return at
}

// blend tells which kinds of nodes randomExpr makes.
type blend struct {
	leaves, kinds []int
}

var (
	polynomials = blend{[]int{api.OpVar, api.OpVar, api.OpVar, api.OpNum}, []int{api.OpAdd, api.OpSub, api.OpMul, api.OpMul, api.OpPow, api.OpNeg}}
	smooths     = blend{[]int{api.OpVar, api.OpVar, api.OpVar, api.OpNum, api.OpPi}, []int{api.OpAdd, api.OpSub, api.OpMul, api.OpMul, api.OpDiv, api.OpPow, api.OpNeg, api.OpRoot, api.OpCall, api.OpCall}}
	everything  = blend{smooths.leaves, append(slices.Clone(smooths.kinds), api.OpAbs, api.OpMin, api.OpMax, api.OpIf)}
)

// randomExpr returns an expression of at most this depth in the variables that are the first n letters.
func (m blend) randomExpr(r *rand.Rand, n, depth int) api.Expr {
	if depth <= 1 || r.Intn(9) == 0 {
		leaf := m.leaves[r.Intn(len(m.leaves))]
		switch {
		case leaf == api.OpVar && n > 0:
			return api.Expr{Op: api.OpVar, Name: string(rune('a' + r.Intn(n)))}
		case leaf == api.OpPi:
			return api.Expr{Op: api.OpPi}
		}
		x := smallNumber(r)
		return api.Expr{Op: api.OpNum, Num: canonical(x.Abs(x))}
	}
	e := api.Expr{Op: m.kinds[r.Intn(len(m.kinds))]}
	kids := 2
	switch e.Op {
	case api.OpNeg, api.OpAbs:
		kids = 1
	case api.OpPow:
		kids, e.Arg = 1, r.Intn(5)
		if slices.Contains(m.kinds, api.OpDiv) {
			e.Arg -= 2
		}
	case api.OpRoot:
		kids, e.Arg = 1, 2+r.Intn(3)
	case api.OpCall:
		kids, e.Arg = 1, 1+r.Intn(8)
	case api.OpIf:
		kids = 3
	}
	for range kids {
		e.Kids = append(e.Kids, m.randomExpr(r, n, depth-1))
	}
	return e
}
