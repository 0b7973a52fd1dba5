package expr_test

import (
	"math/big"
	"math/rand"
	"slices"
	"strconv"
	"strings"
	"testing"

	"inequality/api"
	"inequality/expr"
)

// natural returns the sum of words[i] * 2^(32*i).
func natural(words []uint32) *big.Int {
	n := new(big.Int)
	for _, word := range slices.Backward(words) {
		n.Lsh(n, 32).Or(n, big.NewInt(int64(word)))
	}
	return n
}

// value returns what x denotes.
func value(x api.Rat) *big.Rat {
	num, den := natural(x.Num), natural(x.Den)
	if den.Sign() == 0 {
		den.SetInt64(1)
	}
	if x.Neg {
		num.Neg(num)
	}
	return new(big.Rat).SetFrac(num, den)
}

// words returns the words of the absolute value of n, without a most significant word 0.
func words(n *big.Int) []uint32 {
	var list []uint32
	for n = new(big.Int).Abs(n); n.Sign() > 0; n.Rsh(n, 32) {
		list = append(list, uint32(n.Uint64()))
	}
	return list
}

// canonical returns the canonical value of r, of any size.
func canonical(r *big.Rat) api.Rat {
	x := api.Rat{Neg: r.Sign() < 0, Num: words(r.Num())}
	if !r.IsInt() {
		x.Den = words(r.Denom())
	}
	return x
}

// power2 returns 2^n, also for n below 0.
func power2(n int) *big.Rat {
	p := new(big.Rat).SetInt(new(big.Int).Lsh(big.NewInt(1), uint(max(n, -n))))
	if n < 0 {
		p.Inv(p)
	}
	return p
}

// number returns the number of a text in math/big's notation, or of `2^n` with an integer n and perhaps `-` in front or `-1` behind.
func number(text string) *big.Rat {
	size, minus := strings.CutPrefix(text, "-2^")
	if size, ok := strings.CutPrefix(size, "2^"); ok || minus {
		size, less := strings.CutSuffix(size, "-1")
		n, err := strconv.Atoi(size)
		if err != nil {
			panic(text)
		}
		r := power2(n)
		if less {
			r.Sub(r, power2(0))
		}
		if minus {
			r.Neg(r)
		}
		return r
	}
	r, ok := new(big.Rat).SetString(text)
	if !ok {
		panic(text)
	}
	return r
}

// rat returns the number of a text, of any size.
func rat(text string) api.Rat {
	return canonical(number(text))
}

// sameRat reports whether x and y have the same fields. An empty list and nil are the same.
func sameRat(x, y api.Rat) bool {
	return x.Neg == y.Neg && slices.Equal(x.Num, y.Num) && slices.Equal(x.Den, y.Den)
}

// kinds are the words for the kinds of nodes in the notation of tree.
var kinds = []string{api.OpNeg: "neg", api.OpAdd: "+", api.OpSub: "-", api.OpMul: "*", api.OpDiv: "/", api.OpPow: "^", api.OpRoot: "root", api.OpCall: "call", api.OpAbs: "abs", api.OpMin: "min", api.OpMax: "max", api.OpIf: "if"}

// functions are the names of the elementary functions.
var functions = []string{"", "exp", "log", "sin", "cos", "tan", "asin", "acos", "atan"}

// tree returns the expression of a text of its tree: a number that is not negative, `pi`, a variable, or a node as in `(+ x (^ -2 (sin pi)))`, where the kinds with Arg have it in front of the kid.
func tree(text string) api.Expr {
	tokens := strings.Fields(strings.NewReplacer("(", " ( ", ")", " ) ").Replace(text))
	e := readTree(&tokens)
	if len(tokens) > 0 {
		panic(text)
	}
	return e
}

// readTree takes the tokens of a tree from the list.
func readTree(tokens *[]string) api.Expr {
	take := func() string {
		token := (*tokens)[0]
		*tokens = (*tokens)[1:]
		return token
	}
	token := take()
	switch {
	case token == "pi":
		return api.Expr{Op: api.OpPi}
	case token[0] >= '0' && token[0] <= '9':
		return api.Expr{Op: api.OpNum, Num: rat(token)}
	case token != "(":
		return api.Expr{Op: api.OpVar, Name: token}
	}
	word := take()
	e := api.Expr{Op: slices.Index(kinds, word)}
	if fn := slices.Index(functions, word); fn > 0 {
		e.Op, e.Arg = api.OpCall, fn
	} else if word == "^" || word == "root" {
		e.Arg, _ = strconv.Atoi(take())
	}
	for (*tokens)[0] != ")" {
		e.Kids = append(e.Kids, readTree(tokens))
	}
	take()
	return e
}

// show returns the text of a tree, valid or not, as tree reads it; long ones are cut off.
func show(e api.Expr) string {
	text := showAll(e)
	if len(text) > 400 {
		return text[:400] + ".."
	}
	return text
}

func showAll(e api.Expr) string {
	switch {
	case e.Op == api.OpNum:
		return value(e.Num).RatString()
	case e.Op == api.OpVar:
		return e.Name
	case e.Op == api.OpPi:
		return "pi"
	case e.Op < 0 || e.Op >= len(kinds):
		return "?" + strconv.Itoa(e.Op)
	}
	text := "(" + kinds[e.Op]
	if e.Op == api.OpCall && e.Arg > 0 && e.Arg < len(functions) {
		text = "(" + functions[e.Arg]
	} else if e.Arg != 0 || e.Op == api.OpPow {
		text += " " + strconv.Itoa(e.Arg)
	}
	for _, kid := range e.Kids {
		text += " " + showAll(kid)
	}
	return text + ")"
}

// identical reports whether e and f have the same fields.
func identical(e, f api.Expr) bool {
	return e.Op == f.Op && e.Arg == f.Arg && sameRat(e.Num, f.Num) && e.Name == f.Name && slices.EqualFunc(e.Kids, f.Kids, identical)
}

// isZero reports whether an expression is zero.
func isZero(e api.Expr) bool { return identical(e, api.Expr{}) }

// expect checks that got is exactly the expression with this tree, or, if wantErr is an error, that got is zero.
func expect(t *testing.T, what string, got api.Expr, err api.Errno, want string, wantErr api.Errno) {
	t.Helper()
	expectTree(t, what, got, err, func() api.Expr { return tree(want) }, wantErr)
}

// expectTree is expect for a tree that is not given by its text.
func expectTree(t *testing.T, what string, got api.Expr, err api.Errno, want func() api.Expr, wantErr api.Errno) {
	t.Helper()
	var wanted api.Expr
	if wantErr == api.OK {
		wanted = want()
	}
	if err != wantErr || !identical(got, wanted) {
		t.Errorf("%s is %s, error %d; want %s, error %d", what, show(got), err, show(wanted), wantErr)
	}
}

// parse returns the expression of a text that has no error.
func parse(text string) api.Expr {
	e, at, err := expr.Parse(text)
	if err != api.OK {
		panic(text + ": error " + strconv.Itoa(int(err)) + " at " + strconv.Itoa(at))
	}
	return e
}

// print returns the text of an expression that has one.
func print(e api.Expr) string {
	text, err := expr.Print(e)
	if err != api.OK {
		panic("Print: error " + strconv.Itoa(int(err)))
	}
	return text
}

// depth returns the depth of e.
func depth(e api.Expr) int {
	most := 0
	for _, kid := range e.Kids {
		most = max(most, depth(kid))
	}
	return most + 1
}

// size returns the number of nodes of e.
func size(e api.Expr) int {
	count := 1
	for _, kid := range e.Kids {
		count += size(kid)
	}
	return count
}

// filler returns an expression in the variables v and w with this number of nodes, and the least depth that it can have, of sums and signs.
func filler(nodes int) api.Expr {
	switch nodes {
	case 1:
		return tree("v")
	case 2:
		return tree("(neg w)")
	}
	return api.Expr{Op: api.OpAdd, Kids: []api.Expr{filler((nodes - 1) / 2), filler(nodes - 1 - (nodes-1)/2)}}
}

// tower returns an expression in the variable v of this depth, with as many nodes, that Simplify leaves as it is.
func tower(depth int) api.Expr {
	e := tree("v")
	for i := 1; i < depth; i++ {
		e = api.Expr{Op: api.OpCall, Arg: 1 + i%8, Kids: []api.Expr{e}}
	}
	return e
}

// put returns the tree with the expression e in the place of the variable @.
func put(text string, e api.Expr) api.Expr {
	return replaced(tree(text), e)
}

func replaced(in, e api.Expr) api.Expr {
	if in.Name == "@" {
		return e
	}
	kids := slices.Clone(in.Kids)
	for i := range kids {
		kids[i] = replaced(kids[i], e)
	}
	in.Kids = kids
	return in
}

// disguisedRat returns a number equal to x that is not canonical.
func disguisedRat(r *rand.Rand, x api.Rat) api.Rat {
	v, factor := value(x), big.NewInt(int64(1+r.Intn(1000)))
	zeros := make([]uint32, 3)
	y := api.Rat{Neg: x.Neg, Num: words(new(big.Int).Mul(v.Num(), factor)), Den: words(new(big.Int).Mul(v.Denom(), factor))}
	if v.Sign() == 0 {
		y = api.Rat{Neg: r.Intn(2) == 0, Den: []uint32{uint32(r.Intn(3))}}
	}
	y.Num, y.Den = append(y.Num, zeros[:r.Intn(3)]...), append(y.Den, zeros[:r.Intn(3)]...)
	return y
}

// disguise returns an expression equal to e whose numbers are not canonical, also those that its nodes do not need.
func disguise(r *rand.Rand, e api.Expr) api.Expr {
	e.Num = disguisedRat(r, e.Num)
	kids := make([]api.Expr, 0, len(e.Kids)+r.Intn(2))
	for _, kid := range e.Kids {
		kids = append(kids, disguise(r, kid))
	}
	e.Kids = kids
	return e
}

// A blend tells which kinds of nodes a random expression has.
type blend struct {
	leaves []string // trees
	ops    []string // words of tree, with Arg where it is needed
}

// everything is a blend of all kinds.
var everything = blend{
	leaves: []string{"x", "y", "z", "x", "y", "pi", "0", "1", "2", "3", "1/2", "7/3"},
	ops: []string{"neg", "neg", "+", "-", "*", "/", "+", "-", "*", "/", "^ 0", "^ 1", "^ 2", "^ 3", "^ -1", "^ -2", "^ 32", "^ -32", "root 2", "root 3", "root 8",
		"exp", "log", "sin", "cos", "tan", "asin", "acos", "atan", "abs", "min", "max", "if"},
}

// kidsOf returns the number of kids that a word of tree has.
func kidsOf(op string) int {
	switch op {
	case "+", "-", "*", "/", "min", "max":
		return 2
	case "if":
		return 3
	}
	return 1
}

// random returns a random expression with a depth of at most depth.
func (b blend) random(r *rand.Rand, depth int) api.Expr {
	return tree(b.text(r, depth))
}

func (b blend) text(r *rand.Rand, depth int) string {
	if depth == 1 || r.Intn(6) == 0 {
		return b.leaves[r.Intn(len(b.leaves))]
	}
	op := b.ops[r.Intn(len(b.ops))]
	text := "(" + op
	for range kidsOf(op) {
		text += " " + b.text(r, depth-1)
	}
	return text + ")"
}

// each calls visit with random expressions of a blend.
func (b blend) each(seed int64, count, depth int, visit func(r *rand.Rand, e api.Expr)) {
	r := rand.New(rand.NewSource(seed))
	for range count {
		visit(r, b.random(r, 1+r.Intn(depth)))
	}
}

// point returns values of the variables x, y and z.
func point(x, y, z string) []api.Value {
	return []api.Value{{Name: "x", Num: rat(x)}, {Name: "y", Num: rat(y)}, {Name: "z", Num: rat(z)}}
}

// randomPoint returns values of the variables x, y and z, often small integers.
func randomPoint(r *rand.Rand) []api.Value {
	coordinate := func() string {
		if r.Intn(2) == 0 {
			return strconv.Itoa(r.Intn(7) - 3)
		}
		return strconv.Itoa(r.Intn(41)-20) + "/" + strconv.Itoa(1+r.Intn(9))
	}
	return point(coordinate(), coordinate(), coordinate())
}
