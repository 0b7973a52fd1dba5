package search

import (
	"slices"

	"inequality/api"
	"inequality/enclose"
	"inequality/fresh"
	"inequality/halt"
	"inequality/interval"
)

// candidates returns the candidates of a box, which has canonical numbers, and ends the operation if a number of one is large.
func candidates(b []api.Side) [][]api.Value {
	points := [][]api.Value{halt.Must(enclose.Center(b))}
	if slices.ContainsFunc(b, func(s api.Side) bool { return !halt.Must(interval.Bounded(s.Iv)) }) {
		return points
	}
	for i := range 1 << len(b) {
		at := corner(b, i)
		if !slices.ContainsFunc(points, func(p []api.Value) bool { return slices.EqualFunc(p, at, sameValue) }) {
			points = append(points, at)
		}
	}
	return points
}

// corner returns the corner of a box that has the upper end of side j if bit j of i is 1, and its lower end otherwise.
func corner(b []api.Side, i int) []api.Value {
	var at []api.Value
	for j, side := range b {
		end := side.Iv.Lo
		if i>>j&1 == 1 {
			end = side.Iv.Hi
		}
		at = append(at, api.Value{Name: side.Name, Num: fresh.Number(end)})
	}
	return at
}

// sameValue reports whether two values with canonical numbers are the same.
func sameValue(v, w api.Value) bool {
	return v.Name == w.Name && v.Num.Neg == w.Num.Neg && slices.Equal(v.Num.Num, w.Num.Num) && slices.Equal(v.Num.Den, w.Num.Den)
}
