package natural

// Root returns the greatest number whose power n is not greater than a, for n of at least 1.
func (a Nat) Root(n int) Nat {
	if a.IsZero() {
		return nil
	}
	// Newton's method falls from any number above the root, and stops falling at the root.
	root := FromUint(1).Shl((a.Bits() + n - 1) / n)
	for {
		quotient, _ := a.Div(root.Pow(n - 1))
		next, _ := root.Mul(FromUint(uint64(n - 1))).Add(quotient).divWord(uint32(n))
		if next.Compare(root) >= 0 {
			return root
		}
		root = next
	}
}
