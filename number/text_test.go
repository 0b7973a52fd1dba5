package number_test

import (
	"math/rand"
	"strings"
	"testing"

	"inequality/api"
	"inequality/number"
)

// P1.12: texts that are numbers.
func TestParse(t *testing.T) {
	for s, want := range map[string]string{
		"0": "0", "-0": "0", "007": "7", "-007": "-7", "-0.50": "-1/2", "0.5": "1/2", "00.25": "1/4", "6/4": "3/2", "-6/4": "-3/2", "0/9": "0", "-0/9": "0", "0.000": "0", "5.000": "5", "12.25": "49/4", "1/007": "1/7", "10/5": "2",
		"999999999": "999999999", "1000000000": "1000000000", "1000000001": "1000000001", "4294967296": "4294967296", "-18446744073709551617": "-18446744073709551617", "1000000000000000000000/3": "1000000000000000000000/3", "0.0000000001": "1/10000000000",
	} {
		x, err := number.Parse(s)
		expect(t, "Parse of "+s, x, err, value(rat(want)), api.OK)
	}
	x, err := number.Parse(strings.Repeat("0", api.MaxDigits))
	expect(t, "Parse of zeros", x, err, value(api.Rat{}), api.OK)
	x, err = number.Parse(strings.Repeat("0", api.MaxDigits-1) + "8")
	expect(t, "Parse of zeros and 8", x, err, value(number.FromInt(8)), api.OK)
	x, err = number.Parse(value(power2(2048, -1)).RatString())
	expect(t, "Parse of 64 words", x, err, value(power2(2048, -1)), api.OK)
}

// P1.12: the errors of Parse, in their order.
func TestParseErrors(t *testing.T) {
	for _, s := range []string{
		"", "-", "--1", "-+1", "+1", ".", "/", ".5", "-.5", "5.", "1/", "/2", "-/2", "1/-2", "1/+2", " 1", "1 ", "- 1", "1 /2", "1/ 2", "1.5/2", "1/2.5", "1/2/3", "1.2.3", "1./2", "1/.5", "1e3", "1E3", "0x10", "1_000", "1,5", "1/0x", "1/0.", "1/0/", "a", "1a", "\n1", "1\n", "1\x00", "\x001", "\xff", "1\xb2", "１", "½", "-∞", "1-", "1-2", "1:2", "1;2", "1/2-",
		strings.Repeat("x", api.MaxDigits), strings.Repeat("1", api.MaxDigits-1) + ".", strings.Repeat("9", 700) + "/",
	} {
		x, err := number.Parse(s)
		expect(t, "Parse of "+s, x, err, nil, api.ErrSyntax)
	}
	for _, s := range []string{"1/0", "0/0", "-1/0", "5/000", strings.Repeat("9", 700) + "/0", "0/" + strings.Repeat("0", api.MaxDigits-2)} {
		x, err := number.Parse(s)
		expect(t, "Parse of "+s, x, err, nil, api.ErrZero)
	}
	for _, s := range []string{strings.Repeat("0", api.MaxDigits+1), strings.Repeat("x", api.MaxDigits+1), "1/" + strings.Repeat("0", api.MaxDigits), strings.Repeat("9", 5000), strings.Repeat(" ", 1<<20)} {
		x, err := number.Parse(s)
		expect(t, "Parse of a long text", x, err, nil, api.ErrLimit)
	}
	for _, s := range []string{strings.Repeat("9", 700), "-" + strings.Repeat("9", api.MaxDigits-1), "1/" + strings.Repeat("9", 700), "0." + strings.Repeat("3", 700)} {
		x, err := number.Parse(s)
		expect(t, "Parse of a large number", x, err, nil, api.ErrSize)
	}
}

// P1.12: every byte is accepted only where the grammar has it.
func TestParseBytes(t *testing.T) {
	for b := range 256 {
		c := string([]byte{byte(b)})
		digit := b >= '0' && b <= '9'
		check := func(s string, ok bool) {
			if _, err := number.Parse(s); (err == api.OK) != ok || !ok && err != api.ErrSyntax {
				t.Errorf("Parse(%q): error %d", s, err)
			}
		}
		check(c, digit)
		check(c+"1", digit || c == "-")
		check("1"+c, digit)
		check("1"+c+"1", digit || c == "." || c == "/")
		check("1/"+c+"1", digit)
		check("1."+c+"1", digit)
		check("-"+c+"1", digit)
	}
}

// P1.13: Format.
func TestFormat(t *testing.T) {
	for _, c := range []struct {
		x    api.Rat
		want string
	}{
		{api.Rat{}, "0"}, {api.Rat{Neg: true, Num: []uint32{0}, Den: []uint32{0}}, "0"}, {api.Rat{Neg: true, Num: []uint32{2}, Den: []uint32{4}}, "-1/2"}, {api.Rat{Num: []uint32{8}, Den: []uint32{2}}, "4"}, {api.Rat{Neg: true, Num: []uint32{8}, Den: []uint32{1}}, "-8"},
		{api.Rat{Num: []uint32{1000000000}}, "1000000000"}, {api.Rat{Num: []uint32{1000000007}, Den: []uint32{0, 1}}, "1000000007/4294967296"}, {api.Rat{Num: []uint32{0, 0, 1}}, "18446744073709551616"},
	} {
		if s, err := number.Format(c.x); s != c.want || err != api.OK {
			t.Errorf("Format(%v) is %q (%d), want %q", c.x, s, err, c.want)
		}
	}
	for _, s := range []string{"1000000000000000000000000000", "1000000000000000000000000001", "-1/999999999000000000000000001", "123456789000000000987654321/1000000007"} {
		if got, err := number.Format(rat(s)); got != s || err != api.OK {
			t.Errorf("Format is %q (%d), want %q", got, err, s)
		}
	}
	each(13, func(r *rand.Rand, x, y api.Rat) {
		s, err := number.Format(x)
		if isLarge(x) {
			if s != "" || err != api.ErrSize {
				t.Errorf("Format of a large number is %q (%d)", s, err)
			}
		} else if want := value(x).RatString(); s != want || err != api.OK {
			t.Errorf("Format is %q (%d), want %q", s, err, want)
		}
	})
}

// P1.15: Parse of Format is the canonical value, also of the longest texts.
func TestTextsReturn(t *testing.T) {
	check := func(x api.Rat) {
		s, err := number.Format(x)
		if err != api.OK || len(s) > api.MaxDigits {
			t.Errorf("a text of %d bytes (%d)", len(s), err)
		}
		back, err := number.Parse(s)
		expect(t, "Parse of "+s, back, err, value(x), api.OK)
	}
	most := power2(2048, -1)
	check(most)
	check(opposite(most))
	check(api.Rat{Neg: true, Num: most.Num, Den: power2(2048, -2).Num})
	each(14, func(r *rand.Rand, x, y api.Rat) {
		if !isLarge(x) {
			check(x)
		}
	})
}
