package enclose

import (
	"iter"
	"slices"

	"inequality/api"
	"inequality/expr"
	"inequality/halt"
	"inequality/interval"
	"inequality/number"
)

// isSmall reports whether no number of a, also none that is not looked at, is large.
func isSmall(a api.Interval) bool {
	_, err := interval.IsEmpty(a)
	return err == api.OK
}

// isEmpty reports whether a, without large numbers, is empty.
func isEmpty(a api.Interval) bool {
	empty, err := interval.IsEmpty(a)
	return err == api.OK && empty
}

// isBounded reports whether a, without large numbers, has no infinite end.
func isBounded(a api.Interval) bool {
	return !a.LoInf && !a.HiInf
}

// isPoint reports whether at is a valid point.
func isPoint(at []api.Value) bool {
	for i, v := range at {
		_, err := number.Sign(v.Num)
		if err != api.OK || !expr.IsName(v.Name) || i > 0 && at[i-1].Name >= v.Name {
			return false
		}
	}
	return true
}

// contains reports whether the valid point is in the valid box.
func contains(b []api.Side, at []api.Value) bool {
	return slices.EqualFunc(b, at, func(s api.Side, v api.Value) bool {
		return s.Name == v.Name && halt.Must(interval.Has(s.Iv, v.Num))
	})
}

// hasSide reports whether b has a side with this name.
func hasSide(b []api.Side, name string) bool {
	return slices.ContainsFunc(b, func(s api.Side) bool { return s.Name == name })
}

// requireBounded ends an operation on a valid box that has an unbounded side.
func requireBounded(b []api.Side) {
	for _, s := range sides(b) {
		halt.Unless(isBounded(s.Iv), api.ErrEdge)
	}
}

// sides yields the sides of a valid box with their indexes, in order. Their intervals are canonical and in new memory.
func sides(b []api.Side) iter.Seq2[int, api.Side] {
	return func(yield func(i int, s api.Side) bool) {
		for i, s := range b {
			if !yield(i, api.Side{Name: s.Name, Iv: halt.Must(interval.Canon(s.Iv))}) {
				return
			}
		}
	}
}

// each returns what of makes of the sides of a valid box.
func each[T any](b []api.Side, of func(i int, s api.Side) T) []T {
	list := make([]T, 0, len(b))
	for i, s := range sides(b) {
		list = append(list, of(i, s))
	}
	return list
}

// center returns the center of a valid box.
func center(b []api.Side) []api.Value {
	return each(b, func(_ int, s api.Side) api.Value {
		return api.Value{Name: s.Name, Num: halt.Must(interval.Middle(s.Iv))}
	})
}

// pin returns the box whose only point is at, which is in the valid box b.
func pin(b []api.Side, at []api.Value) []api.Side {
	return each(b, func(i int, s api.Side) api.Side {
		return api.Side{Name: s.Name, Iv: point(at[i].Num)}
	})
}

// point returns the interval that contains x alone.
func point(x api.Rat) api.Interval {
	return halt.Must(interval.Point(x))
}

// copied returns a as it stands, in new memory.
func copied(a api.Interval) api.Interval {
	for _, words := range []*[]uint32{&a.Lo.Num, &a.Lo.Den, &a.Hi.Num, &a.Hi.Den} {
		*words = slices.Clone(*words)
	}
	return a
}
