package elem

import "inequality/fraction"

// Unrounded gives the tests the bounds before the last rounding, in which every bit of a formula is seen.
func Unrounded(fn int, x fraction.Fraction, p int) [2]fraction.Fraction {
	value, _ := unrounded(fn, x, p)
	return value
}

// UnroundedPi gives the tests the bounds of pi with a working precision.
func UnroundedPi(w int) [2]fraction.Fraction {
	return precision(w).pi()
}
