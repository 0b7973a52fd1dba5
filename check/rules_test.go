package check_test

import (
	"slices"
	"strconv"
	"strings"
	"testing"

	"inequality/api"
	"inequality/check"
)

// P7.4, 13: swap.
func TestSwap(t *testing.T) {
	applies(t, "x * y > 0 for x in [1, 2], y in [1, 2], z in [0, 1] where x + y > 2", "swap x y 4", "x * y > 0 for x in [1, 2], y in [1, 2], z in [0, 1] where x + y - 2 > 0, y - x >= 0")
	applies(t, "b + a10 + a9 >= 0 for a10 in [1, inf), a9 in [1, inf), b in [0, 1]", "swap a10 a9 4", "b + a10 + a9 >= 0 for a10 in [1, inf), a9 in [1, inf), b in [0, 1] where a9 - a10 >= 0")
	c := "x * y > 0 for x in [1, 2], y in [1, 2], z in [0, 1]"
	applies(t, c, "swap x y 4", c+" where y - x >= 0")
	for _, rest := range []string{"y x 4", "x x 4", "x z 4", "y z 4", "x w 4", "a x 4", "w z 4", "x y -1", "x y 129"} {
		fails(t, c, "swap "+rest)
	}
	fails(t, "x - y > 0 for x in [1, 2], y in [1, 2]", "swap x y 4")
	fails(t, c+" where x > 1", "swap x y 4")
	fails(t, "1 / (x + y) > 0 for x in [-1, 1], y in [-1, 1]", "swap x y 4")
	applies(t, "1 / x + 1 / y > 0 for x in [1, 2], y in [1, 2]", "swap x y 4", "1 / x + 1 / y > 0 for x in [1, 2], y in [1, 2] where y - x >= 0")
	applies(t, c+" where z > 0"+strings.Repeat(", z > 0", 10), "swap x y 4", c+" where z > 0"+strings.Repeat(", z > 0", 10)+", y - x >= 0")
	fails(t, c+" where z > 0"+strings.Repeat(", z > 0", 11), "swap x y 4")
}

// P7.4, 14: zero.
func TestZero(t *testing.T) {
	applies(t, "exp(x) >= 1 + x for x in [-1, 1]", "zero [x=0] 8")
	fails(t, "exp(x) > 1 + x for x in [-1, 1]", "zero [x=0] 8")
	applies(t, "x^2 - x + 1/4 >= 0 for x in [0, 1]", "zero [x=1/2] 8")
	applies(t, "x^2 + y^2 + x * y >= 0 for x in [-1, inf), y in (-inf, inf)", "zero [x=0, y=0] 8")
	fails(t, "x^2 + y^2 + 2 * x * y >= 0 for x in [-1, 1], y in [-1, 1]", "zero [x=0, y=0] 8") // not definite
	fails(t, "x^2 + y^2 + 3 * x * y >= 0 for x in [-1, 1], y in [-1, 1]", "zero [x=0, y=0] 8")
	fails(t, "x >= 0 for x in [0, 1]", "zero [x=0] 8")
	fails(t, "x^4 >= 0 for x in [-1, 1]", "zero [x=0] 8")
	applies(t, "0 >= 0", "zero [] 8")
	applies(t, "1 - sqrt(1) >= 0 where 0 > 1", "zero [] 8")
	// a value that is not 0, or not known
	fails(t, "x^2 + 1 >= 0 for x in [-1, 1]", "zero [x=0] 8")
	fails(t, "x^2 - 1 >= 0 for x in [-1, 1]", "zero [x=0] 8")
	fails(t, "x^2 + exp(1) - exp(1) >= 0 for x in [-1, 1]", "zero [x=0] 8")
	fails(t, "1 >= 0", "zero [] 8")
	// points
	for _, point := range []string{"[]", "[x=2]", "[y=0]", "[x=0, y=0]", "[x=0, x=0]", "[X=0]", "[=0]", "[y=0, x=0]"} {
		fails(t, "x^2 >= 0 for x in [-1, 1]", "zero "+point+" 8")
	}
	fails(t, "x^2 + y^2 >= 0 for x in [-1, 1], y in [-1, 1]", "zero [y=0, x=0] 8")
	fails(t, "(x - 2)^2 >= 0 for x in [-1, 1]", "zero [x=2] 8")
	fails(t, "x^2 >= 0 for x in [-1, 1]", "zero [x=0] -1")
	fails(t, "x^2 >= 0 for x in [-1, 1]", "zero [x=0] 129")
	// not smooth, or not defined
	fails(t, "abs(x) + x^2 >= 0 for x in [-1, 1]", "zero [x=0] 8")
	fails(t, "abs(0) >= 0", "zero [] 8")
	fails(t, "x^2 + 0 * log(y) >= 0 for x in [-1, 1], y in [0, 1]", "zero [x=0, y=1] 8")
	fails(t, "x^2 + 0 * log(x + 1) >= 0 for x in [-1, 1]", "zero [x=0] 8")
	applies(t, "x^2 + 0 * log(x + 1) >= 0 for x in [-1/2, 1]", "zero [x=0] 8")
}

// tiny is the text of a number whose square is too small for a value, but not for a range.
var tiny = get(api.Step{At: rat("2^-2000")}, "At")

// P7.4, 14: slopes at the ends of sides.
func TestZeroEnds(t *testing.T) {
	for _, c := range []struct {
		terms        string
		rises, falls bool
	}{
		{"x", true, false}, {"-x", false, true}, {"0 * x", true, true}, {"sin(x)", true, false},
		{"x * " + tiny + " * " + tiny, true, false}, {"-x * " + tiny + " * " + tiny, false, true}, {"x * " + tiny + " * " + tiny + " - x * " + tiny + " * " + tiny, false, false},
	} {
		for side, want := range map[string]bool{"[0, 1]": c.rises, "[0, inf)": c.rises, "[-1, 0]": c.falls, "(-inf, 0]": c.falls, "[0, 0]": c.rises || c.falls, "[-1, 1]": c.rises && c.falls, "(-inf, inf)": c.rises && c.falls} {
			for point, goal := range map[string]string{"[x=0]": c.terms + " + 2 * x^2 >= 0 for x in " + side, "[w=0, x=0, y=0]": "w^2 + y^2 + " + c.terms + " + 2 * x^2 >= 0 for w in [-1, 1], x in " + side + ", y in [0, 0]"} {
				if want {
					applies(t, goal, "zero "+point+" 8")
				} else {
					fails(t, goal, "zero "+point+" 8")
				}
			}
		}
	}
	// an infinite end is none, whatever number stands for it
	for _, slope := range []string{"1", "-1"} {
		c := cl(slope + " * x + x^2 >= 0 for x in (-inf, inf)")
		expectApply(t, nil, c, st("zero [x=0] 8"), nil, api.ErrProof)
		c.Box[0].Iv.Lo, c.Box[0].Iv.Hi = rat("0"), rat("0")
		if list, err := check.Apply(nil, c, st("zero [x=0] 8")); len(list) > 0 || err != api.ErrProof {
			t.Errorf("zero at an infinite end: error %d", err)
		}
	}
	// a slope whose value is known to be 0 may have a range with both signs: 1/3 is not on the grid
	applies(t, "(x - 1/3)^2 >= 0 for x in [0, 1]", "zero [x=1/3] 4")
	fails(t, "(x - 1/3)^2 + (x - 1/3) * "+tiny+" * "+tiny+" >= 0 for x in [1/3, 1]", "zero [x=1/3] 4")
}

// P7.4, 15: lead.
func TestLead(t *testing.T) {
	// x - sin(x): the derivatives are 1 - cos(x), sin(x), cos(x), -sin(x)
	for n, want := range map[int]bool{-1: false, 0: false, 1: true, 2: true, 3: true, 4: false, 8: false, 9: false} {
		step := "lead x 0 " + strconv.Itoa(n) + " 8"
		if want {
			applies(t, "x - sin(x) >= 0 for x in [0, 1]", step)
		} else {
			fails(t, "x - sin(x) >= 0 for x in [0, 1]", step)
		}
	}
	applies(t, "x - sin(x) >= 0 for x in [0, inf)", "lead x 0 1 8")
	fails(t, "x - sin(x) > 0 for x in [0, inf)", "lead x 0 1 8")
	applies(t, "x - sin(x) >= 0 for x in [0, 1] where x > 5, 0 > x", "lead x 0 1 8")
	for n := 1; n <= 10; n++ { // the sign of x^n and its first derivative other than 0 at 0
		for _, sign := range []string{"", "-"} {
			for _, side := range []string{"[0, 2]", "[-2, 0]", "[-2, 2]", "[0, inf)", "(-inf, 0]", "(-inf, inf)", "[0, 0]", "[-1, 1/1024]"} {
				low, high := strings.HasPrefix(side, "[0"), strings.HasSuffix(side, " 0]")
				want := n <= 8 && (sign == "" && (n%2 == 0 || low) || sign == "-" && n%2 == 1 && high)
				c, step := sign+"x^"+strconv.Itoa(n)+" >= 0 for x in "+side, "lead x 0 "+strconv.Itoa(n)+" 8"
				if want {
					applies(t, c, step)
				} else {
					fails(t, c, step)
				}
			}
		}
	}
	for _, n := range []string{"0", "-1", "-2", "-9223372036854775808"} { // the goal itself has the sign, or the end
		fails(t, "x^2 >= 0 for x in [0, 1]", "lead x 0 "+n+" 8")
		fails(t, "1 >= 0 for x in [0, 1]", "lead x 0 "+n+" 8")
		fails(t, "-x^2 >= 0 for x in [0, 0]", "lead x 0 "+n+" 8")
	}
	// the derivative of order N may be 0, or have one sign only
	applies(t, "0 * x >= 0 for x in [-1, 0]", "lead x 0 1 8")
	applies(t, "0 * x >= 0 for x in [-1, 1]", "lead x 1/3 2 8")
	fails(t, "0 * x >= 0 for x in [-1, 1]", "lead x 1/3 1 8")
	applies(t, "x^3 + x^2 >= 0 for x in [-1/4, 1]", "lead x 0 2 8")
	fails(t, "x^3 + x^2 >= 0 for x in [-1, 1]", "lead x 0 2 8")
	applies(t, "sin(x) - x >= 0 for x in [-1, 0]", "lead x 0 1 8")
	applies(t, "sin(x) - x >= 0 for x in [-1, 0]", "lead x 0 3 8")
	applies(t, "(x - 1/3)^2 >= 0 for x in [0, 1]", "lead x 1/3 2 8")
	// derivatives below N that are not 0, or not known
	fails(t, "1 + x^2 >= 0 for x in [-1, 1]", "lead x 0 2 8")
	fails(t, "x + x^2 >= 0 for x in [0, 1]", "lead x 0 2 8")
	fails(t, "(exp(1) - exp(1)) * x + x^2 >= 0 for x in [0, 1]", "lead x 0 2 8")
	fails(t, "(x - 1/2)^2 >= 0 for x in [0, 1]", "lead x 0 2 8")
	fails(t, "x^3 >= 0 for x in [0, 1]", "lead x 0 4 8")
	// the place
	fails(t, "x^2 >= 0 for x in [1, 2]", "lead x 0 2 8")
	fails(t, "x^2 >= 0 for x in [-1, 2]", "lead y 0 2 8")
	fails(t, "x^2 >= 0 for x in [-1, 2], y in [0, 1]", "lead x 0 2 8")
	fails(t, "0 >= 0", "lead x 0 1 8")
	fails(t, "x^2 >= 0 for x in [-1, 2]", "lead x 0 2 -1")
	fails(t, "x^2 >= 0 for x in [-1, 2]", "lead x 0 2 129")
	// not smooth, or not defined
	fails(t, "abs(x) >= 0 for x in [0, 2]", "lead x 0 1 8")
	fails(t, "x^2 + 0 * log(x + 1) >= 0 for x in [-1, 2]", "lead x 0 2 8")
	applies(t, "x^2 + 0 * log(x + 1) >= 0 for x in [-1/2, 2]", "lead x 0 2 8")
	fails(t, "x^3 + x * sqrt(x) >= 0 for x in [0, 2]", "lead x 0 2 8")
	fails(t, "x - (1 + x^2)^-32 * x^32 + exp(x) * (1 + x + x^2 + sin(x) * cos(x) * x)^3 - 1 >= 0 for x in [0, 1]", "lead x 0 8 8")
	for _, slope := range []string{"1", "-1"} { // an infinite end is none, whatever number stands for it
		c := cl(slope + " * x >= 0 for x in (-inf, inf)")
		c.Box[0].Iv.Lo, c.Box[0].Iv.Hi = rat("0"), rat("0")
		if list, err := check.Apply(nil, c, st("lead x 0 1 8")); len(list) > 0 || err != api.ErrProof {
			t.Errorf("lead at an infinite end: error %d", err)
		}
	}
}

// P7.4, 16: same.
func TestSame(t *testing.T) {
	applies(t, "(x + 1)^2 > 0 for x in [0, 1], y in [0, 1] where x > 0", "same {x^2 + 2 * x + 1} 4", "x^2 + 2 * x + 1 > 0 for x in [0, 1], y in [0, 1] where x > 0")
	applies(t, "(x + 1)^2 >= 0 for x in [0, 1], y in [0, 1]", "same {(y + 1 + x - y)^2} 4", "(y + 1 + x - y)^2 >= 0 for x in [0, 1], y in [0, 1]")
	fails(t, "(x + 1)^2 >= 0 for x in [0, 1]", "same {x^2 + 2 * x + 2} 4")
	fails(t, "(x + 1)^2 >= 0 for x in [0, 1]", "same {x^2 + 2 * x + 1 + 0 * z} 4")
	fails(t, "(x + 1)^2 >= 0 for x in [0, 1]", "same {x^2 + 2 * x + 1} -1")
	fails(t, "(x + 1)^2 >= 0 for x in [0, 1]", "same {x^2 + 2 * x + 1} 129")
	fails(t, "x / x >= 1 for x in [-1, 1]", "same {0} 4")
	applies(t, "x / x >= 1 for x in [1, 2]", "same {0} 4", "0 >= 0 for x in [1, 2]")
	applies(t, "0 >= 0 for x in [-1, 1]", "same {x / x - 1} 4", "x / x - 1 >= 0 for x in [-1, 1]")
	fails(t, "(1 + x + y + z)^20 >= 0 for x in [0, 1], y in [0, 1], z in [0, 1]", "same {(1 + x + y + z)^20} 4")
}

// P7.4, 17: via.
func TestVia(t *testing.T) {
	applies(t, "x^2 + 1 > 0 for x in [0, 1], y in [0, 1] where y > x", "via {y}", "x^2 + 1 - y >= 0 for x in [0, 1], y in [0, 1] where y - x > 0", "y > 0 for x in [0, 1], y in [0, 1] where y - x > 0")
	applies(t, "x + 1 >= 0 for x in [0, 1]", "via {x + 1}", "x + 1 - (x + 1) >= 0 for x in [0, 1]", "x + 1 >= 0 for x in [0, 1]")
	applies(t, "log(x) >= 0 for x in [0, 1]", "via {1 / x}", "log(x) - 1 / x >= 0 for x in [0, 1]", "1 / x >= 0 for x in [0, 1]")
	fails(t, "x >= 0 for x in [0, 1]", "via {y}")
	fails(t, "x >= 0 for x in [0, 1]", "via {0 * y}")
	applies(t, towerText(29, "x")+" >= 0 for x in [0, 1]", "via {x}", towerText(29, "x")+" - x >= 0 for x in [0, 1]", "x >= 0 for x in [0, 1]")
	fails(t, towerText(30, "x")+" >= 0 for x in [0, 1]", "via {x}")
	fails(t, "x >= 0 for x in [0, 1]", "via {"+towerText(30, "x")+"}")
	fails(t, fillerText(150, "x")+" >= 0 for x in [0, 1]", "via {"+fillerText(150, "x")+"}")
	if list, err := check.Apply(nil, cl(fillerText(150, "x")+" >= 0 for x in [0, 1]"), st("via {"+fillerText(149, "x")+"}")); len(list) != 2 || err != api.OK {
		t.Errorf("via with 300 nodes: error %d", err)
	}
}

// P7.4, 18: scale.
func TestScale(t *testing.T) {
	applies(t, "x + 1 > 0 for x in [0, 1], y in [1, 2] where y > x", "scale {y}", "y > 0 for x in [0, 1], y in [1, 2] where y - x > 0", "(x + 1) * y > 0 for x in [0, 1], y in [1, 2] where y - x > 0")
	applies(t, "x >= 0 for x in [0, 1]", "scale {x - 1}", "x - 1 > 0 for x in [0, 1]", "x * (x - 1) >= 0 for x in [0, 1]")
	fails(t, "x >= 0 for x in [0, 1]", "scale {y}")
	applies(t, towerText(29, "x")+" >= 0 for x in [0, 1]", "scale {x}", "x > 0 for x in [0, 1]", towerText(29, "x")+" * x >= 0 for x in [0, 1]")
	fails(t, towerText(30, "x")+" >= 0 for x in [0, 1]", "scale {x}")
	fails(t, "x >= 0 for x in [0, 1]", "scale {"+towerText(30, "x")+"}")
	fails(t, fillerText(150, "x")+" >= 0 for x in [0, 1]", "scale {"+fillerText(150, "x")+"}")
}

// P7.4, 19: add.
func TestAdd(t *testing.T) {
	c := " for x in [0, 1], y in [0, 1] where y - x > 0, x^2 >= 0"
	applies(t, "x + y > 0"+c, "add 0 1/2", "x + y - 1/2 * (y - x) > 0"+c)
	applies(t, "x + y >= 0"+c, "add 1 3", "x + y - 3 * x^2 >= 0"+c)
	applies(t, "x + y >= 0"+c, "add 1 0", "x + y - 0 * x^2 >= 0"+c)
	for _, rest := range []string{"0 -1/2", "1 -2^-2000", "2 1", "-1 1", "-9223372036854775808 1", "9223372036854775807 1"} {
		fails(t, "x + y > 0"+c, "add "+rest)
	}
	fails(t, "x > 0 for x in [0, 1]", "add 0 1")
	fails(t, towerText(30, "x")+" > 0"+c, "add 0 1")
	applies(t, "x > 0 for x in [0, 1] where "+towerText(28, "x")+" > 0", "add 0 1", "x - 1 * "+towerText(28, "x")+" > 0 for x in [0, 1] where "+towerText(28, "x")+" > 0")
	fails(t, "x > 0 for x in [0, 1] where "+towerText(29, "x")+" > 0", "add 0 1")
	fails(t, fillerText(150, "x")+" > 0 for x in [0, 1] where "+fillerText(149, "x")+" > 0", "add 0 1")
}

// P7.4, 21: far.
func TestFar(t *testing.T) {
	applies(t, "1 / x - log(1 + 1 / x) >= 0 for x in [1, inf)", "far x 0 {x - log(1 + x)} 8", "x - log(1 + x) >= 0 for x in [0, 1]")
	c := " for w in [0, 1], x in [2/3, inf) where w > 0"
	near := " for w in [0, 1], x in [0, 3/2] where w > 0"
	applies(t, "x + w > 0"+c, "far x 1 {1 + w * x} 8", "1 + w * x > 0"+near)
	applies(t, "x^2 - w * x >= 0"+c, "far x 2 {1 - w * x} 8", "1 - w * x >= 0"+near)
	applies(t, "w > 0"+c, "far x 0 {w} 8", "w > 0"+near)
	applies(t, "x^32 + 1 > 0"+c, "far x 32 {1 + x^32} 8", "1 + x^32 > 0"+near)
	fails(t, "x^32 * x + x > 0"+c, "far x 33 {1 + x^32} 8")
	fails(t, "x^-1 > 0"+c, "far x -1 {1} 8")
	fails(t, "x + w > 0"+c, "far x 1 {1 + w} 8")
	fails(t, "x + w > 0"+c, "far x 0 {1 + w * x} 8")
	fails(t, "x + w > 0"+c, "far x 1 {1 + w * x + 0 * z} 8")
	fails(t, "x + w > 0"+c, "far w 1 {1 + x * w} 8")
	fails(t, "x + w > 0"+c, "far y 1 {1 + w * x} 8")
	fails(t, "x + w > 0"+c, "far X 1 {1 + w * x} 8")
	fails(t, "x + w > 0"+c, "far x 1 {1 + w * x} -1")
	fails(t, "x + w > 0"+c, "far x 1 {1 + w * x} 129")
	fails(t, "x + w > 0"+c+", 0 * x > -1", "far x 1 {1 + w * x} 8")
	fails(t, "x + w + 0 * log(w) > 0"+c, "far x 1 {1 + w * x} 8")
	for side, want := range map[string]string{"[2, inf)": "[0, 1/2]", "[1/1000, inf)": "[0, 1000]", "[0, inf)": "", "[-1, inf)": "", "[1, 2]": "", "(-inf, inf)": "", "(-inf, 2]": "", "(-inf, -1]": ""} {
		if want == "" {
			fails(t, "1 + x > 0 for x in "+side, "far x 1 {1 + x} 8")
		} else {
			applies(t, "1 + x > 0 for x in "+side, "far x 1 {1 + x} 8", "1 + x > 0 for x in "+want)
		}
	}
	for _, end := range []string{"2^2048-1", "2^-2047"} { // as large as numbers may be
		d := cl("x > 0 for x in [1, inf)")
		d.Box[0].Iv.Lo = rat(end)
		list, err := check.Apply(nil, d, st("far x 1 {1} 8"))
		if err != api.OK || !slices.Equal(list[0].Box[0].Iv.Hi.Num, max2(d.Box[0].Iv.Lo.Den)) {
			t.Errorf("far from %s: error %d", end, err)
		}
	}
	odd := cl("x > 0 for x in (-inf, inf)") // an infinite end is none, whatever number stands for it
	odd.Box[0].Iv.Lo = rat("1")
	if list, err := check.Apply(nil, odd, st("far x 1 {1} 8")); len(list) > 0 || err != api.ErrProof {
		t.Errorf("far from an infinite end: error %d", err)
	}
	fails(t, "x > 0 for x in [1, inf)", "far x 1 {"+towerText(30, "x")+"} 8")
	fails(t, "x > 0 for x in [1, inf)", "far x 1 {1 + 0 * "+fillerText(290, "x")+"} 8")
	fails(t, "(1 + x + y + z)^20 >= 0 for x in [1, inf), y in [0, 1], z in [0, 1]", "far x 20 {(1 + x + x * y + x * z)^20} 8")
}

// max2 returns the words of a number, or of 1 if there are none.
func max2(words []uint32) []uint32 {
	if len(words) == 0 {
		return []uint32{1}
	}
	return words
}
