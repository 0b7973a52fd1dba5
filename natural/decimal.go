package natural

import (
	"strconv"
	"strings"
)

// The decimal digits are taken in groups, so that a group fits into a word.
const (
	groupDigits = 9
	groupSize   = 1000000000
)

// FromDecimal returns the number of a text that consists of decimal digits.
func FromDecimal(digits string) Nat {
	var n Nat
	group, size := uint64(0), uint64(1)
	for i := range len(digits) {
		group = group*10 + uint64(digits[i]-'0')
		size *= 10
		if size == groupSize || i == len(digits)-1 {
			n = n.Mul(FromUint(size)).Add(FromUint(group))
			group, size = 0, 1
		}
	}
	return n
}

// Decimal returns the decimal digits of a, without leading zeros.
func (a Nat) Decimal() string {
	var groups []string
	for {
		quotient, rest := a.divWord(groupSize)
		group := strconv.FormatUint(uint64(rest), 10)
		if quotient.IsZero() {
			groups = append(groups, group)
			break
		}
		groups = append(groups, strings.Repeat("0", groupDigits-len(group))+group)
		a = quotient
	}
	var text strings.Builder
	for i := len(groups) - 1; i >= 0; i-- {
		text.WriteString(groups[i])
	}
	return text.String()
}
