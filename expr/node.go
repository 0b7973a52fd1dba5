package expr

import (
	"iter"
	"slices"

	"inequality/api"
	"inequality/number"
)

// shapes are the number of kids and the least and the greatest Arg of each kind.
var shapes = [...]struct{ kids, least, most int }{
	api.OpNeg:  {kids: 1},
	api.OpAdd:  {kids: 2},
	api.OpSub:  {kids: 2},
	api.OpMul:  {kids: 2},
	api.OpDiv:  {kids: 2},
	api.OpPow:  {1, -api.MaxPow, api.MaxPow},
	api.OpRoot: {1, 2, api.MaxRoot},
	api.OpCall: {1, api.FnExp, api.FnAtan},
	api.OpAbs:  {kids: 1},
	api.OpMin:  {kids: 2},
	api.OpMax:  {kids: 2},
	api.OpIf:   {kids: 3},
}

// nodes yields the nodes of e with their depths, each one before its kids, and the kids from left to right.
func nodes(e api.Expr) iter.Seq2[int, api.Expr] {
	return func(yield func(depth int, n api.Expr) bool) {
		visit(1, e, yield)
	}
}

// visit yields the nodes of the expression e at this depth. It returns false as soon as yield does.
func visit(depth int, e api.Expr, yield func(depth int, n api.Expr) bool) bool {
	if !yield(depth, e) {
		return false
	}
	for _, kid := range e.Kids {
		if !visit(depth+1, kid, yield) {
			return false
		}
	}
	return true
}

// fits reports whether e is within the limits of size and depth. It stops at the first node that exceeds one of them, so that e may contain itself.
func fits(e api.Expr) bool {
	count := 0
	for depth := range nodes(e) {
		count++
		if count > api.MaxNodes || depth > api.MaxDepth {
			return false
		}
	}
	return true
}

// proper reports whether the fields of a node are what its kind needs, whatever its kids are.
func proper(n api.Expr) bool {
	if n.Op < api.OpNum || n.Op > api.OpIf {
		return false
	}
	shape := shapes[n.Op]
	return len(n.Kids) == shape.kids && n.Arg >= shape.least && n.Arg <= shape.most && properNumber(n) && properName(n)
}

// properNumber reports whether the number of a node is what its kind needs.
func properNumber(n api.Expr) bool {
	if n.Op != api.OpNum { // here a number counts by what it denotes alone
		return !slices.ContainsFunc(n.Num.Num, func(word uint32) bool { return word != 0 })
	}
	sign, err := number.Sign(n.Num)
	return err == api.OK && sign >= 0
}

// properName reports whether the name of a node is what its kind needs.
func properName(n api.Expr) bool {
	if n.Op == api.OpVar {
		return IsName(n.Name)
	}
	return n.Name == ""
}

// read returns an argument with canonical numbers and in memory of its own, or ErrNode if it is not valid.
func read(e api.Expr) (api.Expr, api.Errno) {
	if !Valid(e) {
		return api.Expr{}, api.ErrNode
	}
	return canonical(e), api.OK
}

// readBoth is read for two arguments.
func readBoth(e, f api.Expr) (api.Expr, api.Expr, api.Errno) {
	e, err := read(e)
	if err != api.OK {
		return api.Expr{}, api.Expr{}, err
	}
	f, err = read(f)
	if err != api.OK {
		return api.Expr{}, api.Expr{}, err
	}
	return e, f, api.OK
}

// canonical returns a copy of a valid expression with canonical numbers.
func canonical(e api.Expr) api.Expr {
	c := api.Expr{Op: e.Op, Arg: e.Arg, Name: e.Name, Kids: each(e.Kids, canonical)}
	if e.Op == api.OpNum {
		c.Num, _ = number.Canon(e.Num)
	}
	return c
}

// result returns a copy of what an operation has formed, or ErrLimit if it is too large. Parts of what is formed may share memory, parts of a result may not.
func result(e api.Expr) (api.Expr, api.Errno) {
	if !fits(e) {
		return api.Expr{}, api.ErrLimit
	}
	return fresh(e), api.OK
}

// fresh returns a copy of e in new memory.
func fresh(e api.Expr) api.Expr {
	e.Num.Num, e.Num.Den = slices.Clone(e.Num.Num), slices.Clone(e.Num.Den)
	e.Kids = each(e.Kids, fresh)
	return e
}

// each returns what change makes of each expression of a list.
func each(list []api.Expr, change func(e api.Expr) api.Expr) []api.Expr {
	if len(list) == 0 {
		return nil
	}
	changed := make([]api.Expr, len(list))
	for i, e := range list {
		changed[i] = change(e)
	}
	return changed
}

// node returns the node of a kind without Arg with these kids.
func node(op int, kids ...api.Expr) api.Expr {
	return api.Expr{Op: op, Kids: kids}
}

// indexed returns the node of a kind with this Arg and these kids.
func indexed(op, arg int, kids ...api.Expr) api.Expr {
	return api.Expr{Op: op, Arg: arg, Kids: kids}
}

// variable returns the node of the variable with this name.
func variable(name string) api.Expr {
	return api.Expr{Op: api.OpVar, Name: name}
}

// literal returns the literal of a canonical number that is not large.
func literal(v api.Rat) api.Expr {
	size := api.Expr{Op: api.OpNum, Num: api.Rat{Num: v.Num, Den: v.Den}}
	if v.Neg {
		return node(api.OpNeg, size)
	}
	return size
}

// whole returns the literal of n.
func whole(n int) api.Expr {
	return literal(number.FromInt(n))
}

// literalValue returns the number of a literal and true, or false if e is no literal. The numbers of e are canonical.
func literalValue(e api.Expr) (api.Rat, bool) {
	switch {
	case e.Op == api.OpNum:
		return e.Num, true
	case e.Op == api.OpNeg && e.Kids[0].Op == api.OpNum:
		v, _ := number.Neg(e.Kids[0].Num)
		return v, true
	}
	return api.Rat{}, false
}

// contains reports whether the variable with this name occurs in e.
func contains(e api.Expr, name string) bool {
	for _, n := range nodes(e) {
		if n.Op == api.OpVar && n.Name == name {
			return true
		}
	}
	return false
}
