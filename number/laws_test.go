package number_test

import (
	"testing"

	"inequality/api"
	"inequality/number"
)

// do returns a function that carries out an operation whose result is not large.
func do(t *testing.T, op func(x, y api.Rat) (api.Rat, api.Errno)) func(x, y api.Rat) api.Rat {
	return func(x, y api.Rat) api.Rat {
		z, err := op(x, y)
		if err != api.OK {
			t.Errorf("error %d", err)
		}
		return z
	}
}

// P1.14: the laws of a field, and the order.
func TestField(t *testing.T) {
	add, sub, mul, div := do(t, number.Add), do(t, number.Sub), do(t, number.Mul), do(t, number.Div)
	eachSmall(15, func(x, y, z api.Rat) {
		for law, ok := range map[string]bool{
			"Add is commutative": same(add(x, y), add(y, x)),
			"Mul is commutative": same(mul(x, y), mul(y, x)),
			"Add is associative": same(add(add(x, y), z), add(x, add(y, z))),
			"Mul is associative": same(mul(mul(x, y), z), mul(x, mul(y, z))),
			"Mul distributes":    same(mul(x, add(y, z)), add(mul(x, y), mul(x, z))),
			"Sub undoes Add":     same(sub(add(x, y), y), x),
		} {
			if !ok {
				t.Errorf("not so: %s for %v, %v, %v", law, x, y, z)
			}
		}
		if sign, _ := number.Sign(y); sign != 0 && !same(div(mul(x, y), y), x) {
			t.Errorf("Div does not undo Mul for %v, %v", x, y)
		}
		order, err := number.Compare(x, y)
		sign, err2 := number.Sign(sub(x, y))
		if order != sign || err != api.OK || err2 != api.OK {
			t.Errorf("Compare(%v, %v) is %d, the sign of the difference %d", x, y, order, sign)
		}
	})
}
