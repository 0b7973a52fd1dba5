package enclose

import (
	"inequality/api"
	"inequality/halt"
	"inequality/number"
)

// frame is what the forms around the center of a bounded box are formed from: the box whose only point is the center, and the spreads of the sides.
type frame struct {
	grid
	middle  []api.Side
	spreads []api.Interval
}

// newFrame returns the frame of a valid box without unbounded sides.
func newFrame(b []api.Side, g grid) frame {
	middle := pin(b, center(b))
	spreads := each(b, func(i int, s api.Side) api.Interval { return g.sub(s.Iv, middle[i].Iv) })
	return frame{g, middle, spreads}
}

// inMiddle returns the expression e, whose variables are sides, at the center alone.
func (f frame) inMiddle(e api.Expr) subject {
	return subject{e, f.middle, f.grid}
}

// sum returns the sum of start and of the products of the factors, one for each side, with the spreads.
func (f frame) sum(start api.Interval, factors []api.Interval) api.Interval {
	for i, d := range f.spreads {
		start = f.add(start, f.mul(factors[i], d))
	}
	return start
}

// second returns the term of second order of a Taylor form for the second derivative h with respect to the sides i and j.
func (f frame) second(h api.Interval, i, j int) api.Interval {
	if i != j {
		return f.mul(h, f.mul(f.spreads[i], f.spreads[j]))
	}
	half := halt.Must(number.Middle(number.FromInt(0), number.FromInt(1)))
	return f.times(f.mul(h, f.pow(f.spreads[i], 2)), half)
}
