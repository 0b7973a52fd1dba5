// Package fresh copies values of package api, whatever their fields are, so that a result shares no memory with an argument or with what is kept.
package fresh

import (
	"slices"

	"inequality/api"
)

// Number returns x in new memory.
func Number(x api.Rat) api.Rat {
	return api.Rat{Neg: x.Neg, Num: slices.Clone(x.Num), Den: slices.Clone(x.Den)}
}

// Expr returns e in new memory.
func Expr(e api.Expr) api.Expr {
	e.Num = Number(e.Num)
	e.Kids = each(e.Kids, Expr)
	return e
}

// Point returns a point in new memory.
func Point(at []api.Value) []api.Value {
	return each(at, func(v api.Value) api.Value { return api.Value{Name: v.Name, Num: Number(v.Num)} })
}

// Claim returns c in new memory.
func Claim(c api.Claim) api.Claim {
	c.Goal = Expr(c.Goal)
	c.Box = each(c.Box, side)
	c.Conds = each(c.Conds, func(k api.Cond) api.Cond { return api.Cond{E: Expr(k.E), Strict: k.Strict} })
	return c
}

// Claims returns claims in new memory.
func Claims(list []api.Claim) []api.Claim {
	return each(list, Claim)
}

// Step returns s in new memory.
func Step(s api.Step) api.Step {
	s.At = Number(s.At)
	s.E = Expr(s.E)
	s.Point = Point(s.Point)
	s.Args = each(s.Args, func(b api.Bind) api.Bind { return api.Bind{Name: b.Name, E: Expr(b.E)} })
	s.Kids = each(s.Kids, Step)
	return s
}

// Move returns m in new memory.
func Move(m api.Move) api.Move {
	return api.Move{State: m.State, Step: Step(m.Step), Kids: Claims(m.Kids), Point: Point(m.Point)}
}

// Entry returns e in new memory.
func Entry(e api.Entry) api.Entry {
	e.Claim, e.Proof = Claim(e.Claim), Step(e.Proof)
	return e
}

// Entries returns entries in new memory.
func Entries(list []api.Entry) []api.Entry {
	return each(list, Entry)
}

// side returns a side of a box in new memory.
func side(s api.Side) api.Side {
	s.Iv.Lo, s.Iv.Hi = Number(s.Iv.Lo), Number(s.Iv.Hi)
	return s
}

// each returns the copies of the elements of a list.
func each[T any](list []T, copied func(x T) T) []T {
	var copies []T
	for _, x := range list {
		copies = append(copies, copied(x))
	}
	return copies
}
