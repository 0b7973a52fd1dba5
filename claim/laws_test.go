package claim_test

import (
	"testing"

	"inequality/api"
	"inequality/claim"
	"inequality/enclose"
)

// P6.17: a point of the box is in the box of one of the two claims of Cut, and Member of it is the same there.
func TestCutPoints(t *testing.T) {
	cuts := 0
	sources(81, 500, func(s source) {
		c := s.claim()
		if len(c.Box) == 0 {
			return
		}
		low, high, err := claim.Cut(c, c.Box[s.Intn(len(c.Box))].Name, s.number())
		if err != api.OK {
			return
		}
		cuts++
		for range 10 {
			at, p := s.point(c.Box), s.Intn(9)
			if in, _ := enclose.Holds(c.Box, at); !in {
				continue
			}
			want, _ := claim.Member(c, at, p)
			found := false
			for _, half := range []api.Claim{low, high} {
				in, _ := enclose.Holds(half.Box, at)
				found = found || in
				if got, _ := claim.Member(half, at, p); in && got != want {
					t.Errorf("Member(%s, %v, %d) is %d, that in %s %d", show(c), at, p, want, show(half), got)
				}
			}
			if !found {
				t.Errorf("%v is neither in %s nor in %s", at, show(low), show(high))
			}
		}
	})
	if cuts < 100 {
		t.Errorf("only %d cuts", cuts)
	}
}

// P6.17: a point for which Member is 1 is in what Narrow returns.
func TestNarrowPoints(t *testing.T) {
	members := 0
	sources(91, 1500, func(s source) {
		c := s.claim()
		if len(c.Box) == 0 || len(c.Conds) == 0 {
			return
		}
		narrow, smaller, err := claim.Narrow(c, s.Intn(len(c.Conds)), c.Box[s.Intn(len(c.Box))].Name, 2+s.Intn(15), s.Intn(9))
		if err != api.OK || !smaller {
			return
		}
		for range 20 {
			at, p := s.point(c.Box), s.Intn(9)
			if member, _ := claim.Member(c, at, p); member != 1 {
				continue
			}
			members++
			if got, _ := claim.Member(narrow, at, p); got != 1 {
				t.Errorf("Member(%s, %v, %d) is 1, that in %s %d", show(c), at, p, show(narrow), got)
			}
		}
	})
	if members < 100 {
		t.Errorf("only %d points in regions", members)
	}
}

// P6.18: Member and Refutes of a face are those of the claim at the end.
func TestFacePoints(t *testing.T) {
	faces, refuted := 0, 0
	sources(101, 1000, func(s source) {
		c := s.claim()
		if len(c.Box) == 0 {
			return
		}
		i, upper := s.Intn(len(c.Box)), s.Intn(2) == 0
		side := c.Box[i]
		face, err := claim.Face(c, side.Name, upper)
		if err != api.OK {
			return
		}
		faces++
		end := side.Iv.Lo
		if upper {
			end = side.Iv.Hi
		}
		for range 5 {
			at, p := s.point(c.Box), s.Intn(9)
			at[i].Num = end
			rest := append(at[:i:i], at[i+1:]...)
			member, err := claim.Member(c, at, p)
			got, gotErr := claim.Member(face, rest, p)
			if got != member || gotErr != err {
				t.Errorf("Member(%s, %v, %d) is %d, that of the face %s %d", show(c), at, p, member, show(face), got)
			}
			refutes, _ := claim.Refutes(c, at, p)
			if got, _ := claim.Refutes(face, rest, p); got != refutes {
				t.Errorf("Refutes(%s, %v, %d) is %v, that of the face %s %v", show(c), at, p, refutes, show(face), got)
			}
			if refutes {
				refuted++
			}
		}
	})
	if faces < 300 || refuted < 100 {
		t.Errorf("only %d faces and %d refutations", faces, refuted)
	}
}
