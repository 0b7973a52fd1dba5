package elem

import (
	"math/bits"

	"inequality/natural"
)

// fixedWords is the number of words of a fixed number: exp(64) with the greatest working precision, 240, has less than 64 * fixedWords bits.
const fixedWords = 6

// fixed is a natural number, the sum of its words f[i] * 2^(64*i). It is a number of units of 2^-w, where w is the working precision. Unlike a natural.Nat it needs no memory of its own, which makes the series several times as fast.
type fixed [fixedWords]uint64

// fixedOf returns the number n, which must be less than 2^(64*fixedWords).
func fixedOf(n natural.Nat) fixed {
	var f fixed
	for i, word := range n {
		f[i/2] |= uint64(word) << (i % 2 * 32)
	}
	return f
}

// natural returns the number as one that has no limit of size.
func (f fixed) natural() natural.Nat {
	words := make([]uint32, 2*fixedWords)
	for i, word := range f {
		words[2*i], words[2*i+1] = uint32(word), uint32(word>>32)
	}
	return natural.Of(words)
}

// length returns the number of words without the most significant words 0.
func (f *fixed) length() int {
	n := fixedWords
	for n > 0 && f[n-1] == 0 {
		n--
	}
	return n
}

// plus returns f + g.
func (f fixed) plus(g fixed) fixed {
	var carry uint64
	for i := range f {
		f[i], carry = bits.Add64(f[i], g[i], carry)
	}
	return f
}

// minus returns f - g. g must not be greater than f.
func (f fixed) minus(g fixed) fixed {
	var borrow uint64
	for i := range f {
		f[i], borrow = bits.Sub64(f[i], g[i], borrow)
	}
	return f
}

// times returns f * n.
func (f fixed) times(n uint64) fixed {
	var carry uint64
	for i, word := range f {
		high, low := bits.Mul64(word, n)
		low, more := bits.Add64(low, carry, 0)
		f[i], carry = low, high+more
	}
	return f
}

// over returns f / n without its fraction, and whether there is one.
func (f fixed) over(n uint64) (quotient fixed, inexact bool) {
	var rest uint64
	for i := fixedWords - 1; i >= 0; i-- {
		if rest != 0 || f[i] != 0 {
			quotient[i], rest = bits.Div64(rest, f[i], n)
		}
	}
	return quotient, rest != 0
}

// down is the rounding down of a number from which a fraction was cut off.
func down(f fixed, inexact bool) fixed {
	return f
}

// up is the rounding up of a number from which a fraction was cut off.
func up(f fixed, inexact bool) fixed {
	for i := 0; inexact && i < fixedWords; i++ {
		f[i]++
		inexact = f[i] == 0
	}
	return f
}

// multiply returns f * g / 2^w without its fraction, and whether there is one.
func (w precision) multiply(f, g fixed) (product fixed, inexact bool) {
	var wide [2*fixedWords + 1]uint64
	n := g.length()
	for i, x := range f[:f.length()] {
		var carry uint64
		for j, y := range g[:n] {
			high, low := bits.Mul64(x, y)
			var more uint64
			low, more = bits.Add64(low, carry, 0)
			high += more
			wide[i+j], more = bits.Add64(wide[i+j], low, 0)
			carry = high + more
		}
		wide[i+n] = carry
	}
	skip, shift := int(w)/64, uint(w)%64
	for _, word := range wide[:skip] {
		inexact = inexact || word != 0
	}
	inexact = inexact || wide[skip]&(1<<shift-1) != 0
	for i := range product {
		product[i] = wide[i+skip]>>shift | wide[i+skip+1]<<(64-shift)
	}
	return product, inexact
}
