package enclose_test

import (
	"slices"
	"testing"

	"inequality/api"
	"inequality/enclose"
)

// goodBoxes are valid boxes of all kinds.
func goodBoxes() []string {
	return []string{"", "x [0, 1]", "x [0, 0]", "x [-1/3, 2]", "x (-inf, inf)", "x (-inf, 1/2]", "x [1/2, inf)", "a [0, 1]; b [0, 1]; c [0, 1]; d [0, 1]; e [0, 1]; f [0, 1]", "a [0, 1]; ab [0, 1]; abcdefgh [0, 1]; b [0, 1]; x1 [0, 1]; z9 (-inf, 5]", "x [-2^2048-1, 2^2048-1]"}
}

// badBoxes returns boxes that are not valid.
func badBoxes() map[string][]api.Side {
	large := rat("2^2048")
	list := map[string][]api.Side{
		"a large lower end":             {{Name: "x", Iv: api.Interval{Lo: rat("-2^2048"), Hi: rat("1")}}},
		"a large upper end":             {{Name: "x", Iv: api.Interval{Lo: rat("1"), Hi: large}}},
		"a large number not looked at":  {{Name: "x", Iv: api.Interval{Lo: large, LoInf: true}}},
		"another one":                   {{Name: "x", Iv: api.Interval{Hi: rat("2^-2048"), HiInf: true}}},
		"an empty side behind others":   append(box("a [0, 1]; b [0, 1]"), api.Side{Name: "c", Iv: iv("empty")}),
		"a large side behind an edge":   append(box("a [0, inf)"), api.Side{Name: "c", Iv: api.Interval{Lo: rat("0"), Hi: large}}),
		"a zero side":                   {{}},
		"a million sides":               make([]api.Side, 1000000),
		"a 0 of too many words":         {{Name: "x", Iv: api.Interval{Hi: api.Rat{Den: append(make([]uint32, 4*api.MaxWords), 1)}}}},
		"a 1 of too many words, at 300": {{Name: "x", Iv: api.Interval{Hi: api.Rat{Num: append(make([]uint32, 299), 1), Den: append(make([]uint32, 299), 1)}}}},
	}
	for _, text := range []string{"x empty", "x [1, 0]", "x [1/3, 1/4]", "y [0, 1]; x [0, 1]", "x [0, 1]; x [0, 1]", "a [0, 1]; c [0, 1]; b [0, 1]", "x [0, 1]; abcdefgh [0, 1]", "X [0, 1]", "pi [0, 1]", "in [0, 1]", "exp [0, 1]", "abcdefghi [0, 1]", "1x [0, 1]", "x_ [0, 1]", "a [0, 1]; b [0, 1]; c [0, 1]; d [0, 1]; e [0, 1]; f [0, 1]; g [0, 1]", "x [0, 1]; x1 [0, 1]; x0 [0, 1]", "é [0, 1]"} {
		list[text] = box(text)
	}
	return list
}

// badPoints returns points that are not valid.
func badPoints() map[string][]api.Value {
	list := map[string][]api.Value{"a zero value": {{}}, "a million values": make([]api.Value, 1000000), "a large 0": {{Name: "x", Num: api.Rat{Den: append(make([]uint32, 4*api.MaxWords), 1)}}}}
	for _, text := range []string{"y 1; x 1", "x 1; x 1", "X 1", "sin 1", "abcdefghi 0", "x 2^2048", "x -2^2048", "x 2^-2048", "x 0; y 2^2048", "x 1; x0 1; x 1", "1 1"} {
		list[text] = pt(text)
	}
	return list
}

// P5.2: Valid.
func TestValid(t *testing.T) {
	for _, text := range goodBoxes() {
		if !enclose.Valid(box(text)) || !enclose.Valid(disguisedBox(box(text))) {
			t.Errorf("%s is not valid", text)
		}
	}
	for what, b := range badBoxes() {
		if enclose.Valid(b) {
			t.Errorf("valid: %s", what)
		}
	}
	if !enclose.Valid([]api.Side{}) {
		t.Error("an empty list is not valid")
	}
	odd := api.Interval{Lo: rat("5"), Hi: rat("3"), HiInf: true}
	if !enclose.Valid([]api.Side{{Name: "x", Iv: odd}}) {
		t.Error("an end that is not looked at makes a side empty")
	}
}

// P5.2: Find.
func TestFind(t *testing.T) {
	b := []api.Side{{Name: "x", Iv: disguisedIv(iv("[1/2, 3]"))}, {Name: "X", Iv: iv("empty")}, {Name: "x", Iv: iv("[7, 8]")}, {Name: "", Iv: iv("[2^3000, inf)")}, {Name: "y", Iv: disguisedIv(iv("(-inf, 5]"))}}
	for i, name := range []string{"x", "X", "-", "", "y"} {
		if name == "-" {
			continue
		}
		got, ok := enclose.Find(b, name)
		if !ok || !sameIv(got, b[i].Iv) {
			t.Errorf("Find of %q is %v, %v", name, got, ok)
		}
	}
	for _, name := range []string{"z", "xx", " ", "x\x00"} {
		if got, ok := enclose.Find(b, name); ok || !sameIv(got, api.Interval{}) {
			t.Errorf("Find of %q is %v, %v", name, got, ok)
		}
	}
	if _, ok := enclose.Find(nil, ""); ok {
		t.Error("no sides have one without a name")
	}
}

// P5.2: Holds, and P5.3: At, which has ErrBox for a point that is not in the box.
func TestHoldsAt(t *testing.T) {
	for _, c := range []struct {
		b, at string
		in    bool
	}{
		{"", "", true}, {"x [0, 1]", "x 0", true}, {"x [0, 1]", "x 1", true}, {"x [0, 1]", "x 1/3", true}, {"x [0, 1]", "x -2^-100", false}, {"x [0, 1]", "x 3/2", false}, {"x [1/3, 1/3]", "x 1/3", true}, {"x [1/3, 1/3]", "x 1/2", false},
		{"x [0, 1]", "", false}, {"x [0, 1]", "y 0", false}, {"x [0, 1]", "x 0; y 0", false}, {"x [0, 1]", "a 0; x 0", false}, {"", "x 0", false}, {"x [0, 1]; y [2, 3]", "x 0; y 2", true}, {"x [0, 1]; y [2, 3]", "x 0", false}, {"x [0, 1]; y [2, 3]", "y 2", false}, {"x [0, 1]; y [2, 3]", "x 0; y 1", false}, {"x [0, 1]; y [2, 3]", "x 2; y 2", false}, {"x [0, 1]; y [2, 3]", "x 0; z 2", false}, {"x [0, 1]", "x 0; x1 0", false},
		{"x (-inf, inf)", "x 2^2047", true}, {"x [0, inf)", "x 2^2048-1", true}, {"x [0, inf)", "x 0", true}, {"x [0, inf)", "x -1", false}, {"x (-inf, 0]", "x -5", true}, {"x (-inf, 0]", "x 0", true}, {"x (-inf, 0]", "x 1/9", false},
		{"a [0, 1]; b [0, 1]; c [0, 1]; d [0, 1]; e [0, 1]; f [0, 1]", "a 0; b 0; c 0; d 1; e 1; f 1/2", true}, {"a [0, 1]; b [0, 1]; c [0, 1]; d [0, 1]; e [0, 1]; f [0, 1]", "a 0; b 0; c 0; d 1; e 1; f 1/2; g 0", false},
	} {
		b, at := disguisedBox(box(c.b)), pt(c.at)
		for i := range at {
			if len(at[i].Num.Num) < 10 {
				at[i].Num = disguised(at[i].Num)
			}
		}
		if got, err := enclose.Holds(b, at); got != c.in || err != api.OK {
			t.Errorf("Holds(%s, %s) is %v, error %d", c.b, c.at, got, err)
		}
		var want []api.Side
		wantErr := api.ErrBox
		if c.in {
			wantErr = api.OK
			for _, v := range pt(c.at) {
				want = append(want, api.Side{Name: v.Name, Iv: api.Interval{Lo: v.Num, Hi: v.Num}})
			}
		}
		if got, err := enclose.At(b, at); !sameBox(got, want) || err != wantErr {
			t.Errorf("At(%s, %s) is %s, error %d", c.b, c.at, boxText(got), err)
		}
	}
}

// P5.2: Center.
func TestCenter(t *testing.T) {
	for _, c := range []struct {
		b, want string
		err     api.Errno
	}{
		{"", "", api.OK}, {"x [0, 1]", "x 1/2", api.OK}, {"x [1/3, 1/3]", "x 1/3", api.OK}, {"x [-1, 2]; y [3, 4]", "x 1/2; y 7/2", api.OK}, {"x [5, inf)", "x 6", api.OK}, {"x (-inf, 5/2]", "x 3/2", api.OK}, {"x (-inf, inf)", "x 0", api.OK}, {"a (-inf, inf); b [1/2, inf); c (-inf, 0]; d [0, 3]; e [0, 0]; f [1/3, 1]", "a 0; b 3/2; c -1; d 3/2; e 0; f 2/3", api.OK},
		{"x [2^2048-1, 2^2048-1]", "x 2^2048-1", api.OK}, {"x [2^2048-1, inf)", "", api.ErrSize}, {"x (-inf, -2^2048-1]", "x -2^2048", api.ErrSize}, {"w [0, 1]; x [1/2, 2^2048-1]", "", api.ErrSize}, {"x [2^-2047, 1]", "", api.ErrSize},
	} {
		want := pt(c.want)
		if c.err != api.OK {
			want = nil
		}
		if got, err := enclose.Center(box(c.b)); !samePoint(got, want) || err != c.err {
			t.Errorf("Center(%s) is %s, error %d", c.b, ptText(got), err)
		}
	}
	if got, err := enclose.Center(disguisedBox(box("x [1/3, 2/3]; y [0, inf)"))); !samePoint(got, pt("x 1/2; y 1")) || err != api.OK {
		t.Errorf("Center of a box that is not canonical is %s, error %d", ptText(got), err)
	}
}

// P5.3: Put and Drop.
func TestPutDrop(t *testing.T) {
	for _, c := range []struct{ b, name, a, put, drop string }{
		{"x [0, 1]", "x", "[2, 3]", "x [2, 3]", ""},
		{"x [0, 1]; y [2, 3]; z [4, 5]", "x", "[-1, -1]", "x [-1, -1]; y [2, 3]; z [4, 5]", "y [2, 3]; z [4, 5]"},
		{"x [0, 1]; y [2, 3]; z [4, 5]", "y", "[1/3, inf)", "x [0, 1]; y [1/3, inf); z [4, 5]", "x [0, 1]; z [4, 5]"},
		{"x [0, 1]; y [2, 3]; z [4, 5]", "z", "(-inf, inf)", "x [0, 1]; y [2, 3]; z (-inf, inf)", "x [0, 1]; y [2, 3]"},
		{"a (-inf, inf); b [0, 1]; c [0, 1]; d [0, 1]; e [0, 1]; f [0, 1]", "f", "(-inf, 1]", "a (-inf, inf); b [0, 1]; c [0, 1]; d [0, 1]; e [0, 1]; f (-inf, 1]", "a (-inf, inf); b [0, 1]; c [0, 1]; d [0, 1]; e [0, 1]"},
	} {
		for _, b := range [][]api.Side{box(c.b), disguisedBox(box(c.b))} {
			if got, err := enclose.Put(b, c.name, disguisedIv(iv(c.a))); !sameBox(got, box(c.put)) || err != api.OK {
				t.Errorf("Put(%s, %s, %s) is %s, error %d", c.b, c.name, c.a, boxText(got), err)
			}
			if got, err := enclose.Drop(b, c.name); !sameBox(got, box(c.drop)) || err != api.OK {
				t.Errorf("Drop(%s, %s) is %s, error %d", c.b, c.name, boxText(got), err)
			}
		}
	}
	for _, name := range []string{"w", "y", "xx", "abcdefgh"} {
		for _, b := range []string{"", "x [0, 1]", "x [0, 1]; z [0, 1]"} {
			if got, err := enclose.Put(box(b), name, iv("[0, 1]")); got != nil || err != api.ErrVar {
				t.Errorf("Put(%s, %s) is %s, error %d", b, name, boxText(got), err)
			}
			if got, err := enclose.Drop(box(b), name); got != nil || err != api.ErrVar {
				t.Errorf("Drop(%s, %s) is %s, error %d", b, name, boxText(got), err)
			}
		}
	}
	for what, a := range map[string]api.Interval{"an empty one": iv("empty"), "one from 3 to 2": iv("[3, 2]"), "a large one": iv("[0, 2^2048]"), "a large one, not looked at": {Lo: rat("2^2048"), LoInf: true}} {
		for _, name := range []string{"x", "w"} {
			if got, err := enclose.Put(box("x [0, 1]"), name, a); got != nil || err != api.ErrBox {
				t.Errorf("Put of %s at %s is %s, error %d", what, name, boxText(got), err)
			}
		}
	}
}

// P5.4: Widest.
func TestWidest(t *testing.T) {
	for _, c := range []struct {
		b, want string
		err     api.Errno
	}{
		{"x [0, 1]; y [3, 5]; z [1, 3]", "y", api.OK}, {"x [0, 1]; y [0, inf)", "y", api.OK}, {"", "", api.OK}, {"x [5, 5]", "", api.OK}, {"x [5, 5]; y [0, 0]", "", api.OK}, {"x [5, 5]; y [0, 2^-1000]", "y", api.OK}, {"x [0, 1]", "x", api.OK}, {"x [0, 1]; y [0, 1]", "x", api.OK}, {"x [0, 1]; y [0, 2]; z [0, 2]", "y", api.OK}, {"x [1/3, 2/3]; y [0, 1/4]; z [-1/6, 1/6]", "x", api.OK}, {"x [-3, 1]; y [2, 5]", "x", api.OK},
		{"x (-inf, 1]; y [0, inf)", "x", api.OK}, {"w [0, 9]; x [0, 1]; y (-inf, inf); z (-inf, 0]", "y", api.OK}, {"a [0, 1]; b [0, 2]; c [0, 3]; d [0, 4]; e [0, 5]; f [0, 6]", "f", api.OK},
		{"x [-2^2047, 2^2047]", "", api.ErrSize}, {"w [0, 1]; x [2^-2047, 2^2047]; y [0, 5]", "", api.ErrSize}, {"w [0, 1]; x [-2^2047, 2^2047]; y [0, inf)", "y", api.OK}, {"x [-1, 2^2048-1]", "", api.ErrSize}, {"x [0, 2^2048-1]", "x", api.OK}, {"x [-2^2047, 2^2047-1]", "x", api.OK},
	} {
		for _, b := range [][]api.Side{box(c.b), disguisedBox(box(c.b))} {
			if got, ok, err := enclose.Widest(b); got != c.want || ok != (c.want != "") || err != c.err {
				t.Errorf("Widest(%s) is %q, %v, error %d", c.b, got, ok, err)
			}
		}
	}
}

// P5.1: ErrBox of the functions of boxes, behind ErrName and ahead of all others.
func TestBoxErrors(t *testing.T) {
	for what, b := range badBoxes() {
		if in, err := enclose.Holds(b, pt("x 0")); in || err != api.ErrBox {
			t.Errorf("Holds, %s: %v, error %d", what, in, err)
		}
		if got, err := enclose.Center(b); got != nil || err != api.ErrBox {
			t.Errorf("Center, %s: error %d", what, err)
		}
		if got, err := enclose.At(b, pt("x 0")); got != nil || err != api.ErrBox {
			t.Errorf("At, %s: error %d", what, err)
		}
		if name, ok, err := enclose.Widest(b); name != "" || ok || err != api.ErrBox {
			t.Errorf("Widest, %s: error %d", what, err)
		}
		for name, want := range map[string]api.Errno{"x": api.ErrBox, "w": api.ErrBox, "": api.ErrName, "pi": api.ErrName, "X": api.ErrName, "abcdefghi": api.ErrName} {
			if got, err := enclose.Put(b, name, iv("[0, 1]")); got != nil || err != want {
				t.Errorf("Put of %q, %s: error %d", name, what, err)
			}
			if got, err := enclose.Drop(b, name); got != nil || err != want {
				t.Errorf("Drop of %q, %s: error %d", name, what, err)
			}
		}
	}
	for _, name := range []string{"", "pi", "X", "abcdefghi", "where"} {
		if got, err := enclose.Put(box("x [0, 1]"), name, iv("empty")); got != nil || err != api.ErrName {
			t.Errorf("Put of %q: error %d", name, err)
		}
		if got, err := enclose.Drop(box("x [0, 1]"), name); got != nil || err != api.ErrName {
			t.Errorf("Drop of %q: error %d", name, err)
		}
	}
	for what, at := range badPoints() {
		for _, b := range []string{"", "x [0, 1]", "x [0, 1]; y [0, 1]"} {
			if in, err := enclose.Holds(box(b), at); in || err != api.ErrBox {
				t.Errorf("Holds, %s: %v, error %d", what, in, err)
			}
			if got, err := enclose.At(box(b), at); got != nil || err != api.ErrBox {
				t.Errorf("At, %s: error %d", what, err)
			}
		}
	}
	long := make([]api.Value, 0, 26*26) // valid, but in no box
	for c := 'a'; c <= 'z'; c++ {
		for d := 'a'; d <= 'z'; d++ {
			if name := string([]rune{c, d}); !slices.Contains([]string{"pi", "if", "in"}, name) {
				long = append(long, api.Value{Name: name})
			}
		}
	}
	if in, err := enclose.Holds(box("aa [0, 1]"), long); in || err != api.OK {
		t.Errorf("Holds of a long point: %v, error %d", in, err)
	}
}
