package natural

// Gcd returns the greatest common divisor of a and b. If one of them is 0, it is the other one.
func (a Nat) Gcd(b Nat) Nat {
	if a.IsZero() {
		return b
	}
	if b.IsZero() {
		return a
	}
	// Without its factors 2 the denominator of a grid number is 1, and nothing is left to do.
	x, y := a.Zeros(), b.Zeros()
	return oddGcd(a.Shr(x), b.Shr(y)).Shl(min(x, y))
}

// oddGcd is Euclid's algorithm. While the numbers are long, several of its steps are taken at once.
func oddGcd(a, b Nat) Nat {
	if a.Compare(b) < 0 {
		a, b = b, a
	}
	if b.IsOne() {
		return b
	}
	for len(b) > 2 {
		next, rest, ok := steps(a, b)
		if !ok {
			next = b
			_, rest = a.Div(b)
		}
		a, b = next, rest
	}
	if b.IsZero() {
		return a
	}
	_, rest := a.Div(b)
	x, y := b.low(), rest.low()
	for y != 0 {
		x, y = y, x%y
	}
	return FromUint(x)
}

// steps takes steps of Euclid's algorithm for a >= b as far as the first 64 bits of a and the bits of b at the same places decide the quotients (Lehmer's method with the condition of Collins). It returns false if they decide none. With signs that alternate, the numbers that are reached are a * u0 + b * v0 and a * u1 + b * v1.
func steps(a, b Nat) (Nat, Nat, bool) {
	shift := a.Bits() - 64
	x, y := a.window(shift), b.window(shift)
	var u0, u1, u2, v0, v1, v2 uint64 = 0, 1, 0, 0, 0, 1
	even := false
	for y >= v2 && x-y >= v1+v2 { // so all factors but u2 and v2 stay below 2^32
		q := x / y
		x, y = y, x%y
		u0, u1, u2 = u1, u2, u1+q*u2
		v0, v1, v2 = v1, v2, v1+q*v2
		even = !even
	}
	switch {
	case v0 == 0:
		return nil, nil, false
	case even:
		return difference(a, u0, b, v0), difference(b, v1, a, u1), true
	}
	return difference(b, v0, a, u0), difference(a, u1, b, v1), true
}

// window returns the 64 bits of a from the one at shift on.
func (a Nat) window(shift int) uint64 {
	i, k := shift/32, shift%32
	wide := uint64(a.word(i)) | uint64(a.word(i+1))<<32
	return wide>>k | uint64(a.word(i+2))<<(64-k)
}

// difference returns a * x - b * y, which must not be negative, for factors below 2^32.
func difference(a Nat, x uint64, b Nat, y uint64) Nat {
	result := make([]uint32, max(len(a), len(b))+1)
	var plus, minus, borrow uint64
	for i := range result {
		plus += uint64(a.word(i)) * x
		minus += uint64(b.word(i)) * y
		d := plus&(1<<32-1) - minus&(1<<32-1) - borrow
		result[i] = uint32(d)
		borrow = d >> 63
		plus >>= 32
		minus >>= 32
	}
	return Of(result)
}
