package natural

import "math/bits"

// Div returns the quotient of a and b without its fraction, and the remainder. b must not be 0.
func (a Nat) Div(b Nat) (quotient, rest Nat) {
	zeros := b.Zeros()
	switch {
	case a.Compare(b) < 0:
		return nil, a
	case zeros == b.Bits()-1: // the denominators of grid numbers are such powers of two
		return a.Shr(zeros), a.tail(zeros)
	case len(b) == 1:
		q, r := a.divWord(b[0])
		return q, FromUint(uint64(r))
	}
	return a.divLong(b)
}

// tail returns the remainder of a divided by 2^n.
func (a Nat) tail(n int) Nat {
	skip, shift := n/32, n%32
	rest := make([]uint32, skip+1)
	copy(rest, a)
	rest[skip] &= 1<<shift - 1
	return Of(rest)
}

// divWord returns the quotient of a and d without its fraction, and the remainder.
func (a Nat) divWord(d uint32) (Nat, uint32) {
	quotient := make([]uint32, len(a))
	var rest uint64
	for i := len(a) - 1; i >= 0; i-- {
		rest = rest<<32 | uint64(a[i])
		quotient[i] = uint32(rest / uint64(d))
		rest %= uint64(d)
	}
	return Of(quotient), uint32(rest)
}

// divLong is the long division by a number b of at least two words that is not greater than a. Both are shifted so that the first bit of b is set: then a quotient's word can be estimated from the first words.
func (a Nat) divLong(b Nat) (Nat, Nat) {
	shift := bits.LeadingZeros32(b[len(b)-1])
	divisor := b.Shl(shift)
	dividend := make([]uint32, len(a)+1)
	copy(dividend, a.Shl(shift))
	quotient := make([]uint32, len(a)-len(b)+1)
	for i := len(quotient) - 1; i >= 0; i-- {
		part := dividend[i : i+len(b)+1]
		q := estimate(part, divisor)
		if takeAway(part, divisor, q) {
			q--
			putBack(part, divisor)
		}
		quotient[i] = q
	}
	return Of(quotient), Of(dividend).Shr(shift)
}

// estimate returns the quotient of part and divisor, or 1 more. part has one word more than divisor, and its quotient is less than 2^32.
func estimate(part []uint32, divisor Nat) uint32 {
	n := len(divisor)
	first, second := uint64(divisor[n-1]), uint64(divisor[n-2])
	top := uint64(part[n])<<32 | uint64(part[n-1])
	q, r := top/first, top%first
	for r < 1<<32 && (q >= 1<<32 || q*second > r<<32|uint64(part[n-2])) {
		q--
		r += first
	}
	return uint32(q)
}

// takeAway subtracts q * divisor from part, modulo 2 to the power of its length, and reports whether part was less.
func takeAway(part []uint32, divisor Nat, q uint32) bool {
	var carry, borrow uint64
	for i, w := range part {
		carry += uint64(q) * uint64(divisor.word(i))
		d := uint64(w) - carry&(1<<32-1) - borrow
		part[i] = uint32(d)
		borrow = d >> 63
		carry >>= 32
	}
	return borrow == 1
}

// putBack adds divisor to part, modulo 2 to the power of its length.
func putBack(part []uint32, divisor Nat) {
	var carry uint64
	for i, w := range part {
		carry += uint64(w) + uint64(divisor.word(i))
		part[i] = uint32(carry)
		carry >>= 32
	}
}
