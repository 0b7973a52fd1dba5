package enclose

import (
	"slices"

	"inequality/api"
	"inequality/halt"
	"inequality/interval"
)

// requireSquare ends an operation on rows that are no matrix of at most MaxSides rows and as many columns.
func requireSquare(m [][]api.Interval) {
	halt.Unless(len(m) <= api.MaxSides, api.ErrArg)
	for _, row := range m {
		halt.Unless(len(row) == len(m), api.ErrArg)
	}
}

// requireSmallEntries ends an operation on a matrix with a large number.
func requireSmallEntries(m [][]api.Interval) {
	for _, row := range m {
		for _, a := range row {
			halt.Unless(isSmall(a), api.ErrSize)
		}
	}
}

// hasEmpty reports whether an entry of m is empty.
func hasEmpty(m [][]api.Interval) bool {
	return slices.ContainsFunc(m, func(row []api.Interval) bool { return slices.ContainsFunc(row, isEmpty) })
}

// eliminates reports whether elimination in m leads to pivots that are all greater than 0. It looks at the entries from the diagonal on, which stand for those below it, too.
func eliminates(m [][]api.Interval, g grid) bool {
	positive, err := halt.Run(func() bool {
		rows := m
		for k := range m {
			if halt.Must(interval.Sign(rows[k][k])) != api.SignPos {
				return false
			}
			rows = reduced(rows, k, g)
		}
		return true
	})
	return positive && err == api.OK
}

// reduced returns m after the elimination of row k from the rows below it.
func reduced(m [][]api.Interval, k int, g grid) [][]api.Interval {
	rows := make([][]api.Interval, len(m))
	for i := k + 1; i < len(m); i++ {
		rows[i] = make([]api.Interval, len(m))
		for j := i; j < len(m); j++ {
			rows[i][j] = g.sub(m[i][j], g.div(g.mul(m[k][i], m[k][j]), m[k][k]))
		}
	}
	return rows
}
