// Package natural implements arithmetic with natural numbers of any size. The layers use it, through package fraction, for what they form on the way to a result of bounded size.
package natural

import (
	"cmp"
	"math/bits"
)

// Nat is a natural number, the sum of its words n[i] * 2^(32*i). Its most significant word is not 0, so 0 has no words. No function changes the words of a Nat that it is given, so several may share them.
type Nat []uint32

// Of returns the number of the words, of which the most significant ones may be 0. It shares their memory.
func Of(words []uint32) Nat {
	n := len(words)
	for n > 0 && words[n-1] == 0 {
		n--
	}
	return words[:n]
}

// FromUint returns the number n.
func FromUint(n uint64) Nat {
	return Of([]uint32{uint32(n), uint32(n >> 32)})
}

// low returns the number modulo 2^64.
func (a Nat) low() uint64 {
	return uint64(a.word(0)) | uint64(a.word(1))<<32
}

// word returns the word at i, which is 0 beyond the last one.
func (a Nat) word(i int) uint32 {
	if i < len(a) {
		return a[i]
	}
	return 0
}

// IsZero reports whether a is 0.
func (a Nat) IsZero() bool {
	return len(a) == 0
}

// IsOne reports whether a is 1.
func (a Nat) IsOne() bool {
	return len(a) == 1 && a[0] == 1
}

// Bits returns the number of binary digits of a, 0 for 0.
func (a Nat) Bits() int {
	if len(a) == 0 {
		return 0
	}
	return 32*len(a) - bits.LeadingZeros32(a[len(a)-1])
}

// Zeros returns the number of binary digits 0 behind the last 1 of a, 0 for 0.
func (a Nat) Zeros() int {
	for i, w := range a {
		if w != 0 {
			return 32*i + bits.TrailingZeros32(w)
		}
	}
	return 0
}

// Compare returns -1, 0 or 1 if a is less than b, equal to it, or greater.
func (a Nat) Compare(b Nat) int {
	if len(a) != len(b) {
		return cmp.Compare(len(a), len(b))
	}
	for i := len(a) - 1; i >= 0; i-- {
		if a[i] != b[i] {
			return cmp.Compare(a[i], b[i])
		}
	}
	return 0
}

// Add returns a + b.
func (a Nat) Add(b Nat) Nat {
	sum := make([]uint32, max(len(a), len(b))+1)
	var carry uint64
	for i := range sum {
		carry += uint64(a.word(i)) + uint64(b.word(i))
		sum[i] = uint32(carry)
		carry >>= 32
	}
	return Of(sum)
}

// Sub returns a - b. b must not be greater than a.
func (a Nat) Sub(b Nat) Nat {
	difference := make([]uint32, len(a))
	var borrow uint64
	for i, w := range a {
		d := uint64(w) - uint64(b.word(i)) - borrow
		difference[i] = uint32(d)
		borrow = d >> 63
	}
	return Of(difference)
}

// Mul returns a * b.
func (a Nat) Mul(b Nat) Nat {
	product := make([]uint32, len(a)+len(b))
	for i, w := range a {
		if w == 0 { // powers of two consist of words 0 mostly
			continue
		}
		var carry uint64
		for j, v := range b {
			carry += uint64(w)*uint64(v) + uint64(product[i+j])
			product[i+j] = uint32(carry)
			carry >>= 32
		}
		product[i+len(b)] = uint32(carry)
	}
	return Of(product)
}

// Pow returns a to the power n, which must not be negative. The power 0 is 1.
func (a Nat) Pow(n int) Nat {
	power := FromUint(1)
	for i := bits.Len(uint(n)) - 1; i >= 0; i-- {
		power = power.Mul(power)
		if n>>i&1 == 1 {
			power = power.Mul(a)
		}
	}
	return power
}

// Shl returns a * 2^n, for n that is not negative.
func (a Nat) Shl(n int) Nat {
	if n == 0 || len(a) == 0 {
		return a
	}
	skip, shift := n/32, n%32
	moved := make([]uint32, len(a)+skip+1)
	for i, w := range a {
		wide := uint64(w) << shift
		moved[i+skip] |= uint32(wide)
		moved[i+skip+1] = uint32(wide >> 32)
	}
	return Of(moved)
}

// Shr returns a / 2^n without its fraction, for n that is not negative.
func (a Nat) Shr(n int) Nat {
	if n == 0 {
		return a
	}
	skip, shift := n/32, n%32
	if skip >= len(a) {
		return nil
	}
	moved := make([]uint32, len(a)-skip)
	for i := range moved {
		wide := uint64(a[i+skip]) | uint64(a.word(i+skip+1))<<32
		moved[i] = uint32(wide >> shift)
	}
	return Of(moved)
}
