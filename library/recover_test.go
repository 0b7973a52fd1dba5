package library_test

import (
	"encoding/binary"
	"fmt"
	"hash/crc32"
	"slices"
	"strings"
	"testing"

	"inequality/api"
	"inequality/library"
)

// expectRead checks what Recover returns for bytes, and that Decode returns the same if these are all of them.
func expectRead(t *testing.T, what, b string, want []api.Entry, wantSize int) {
	t.Helper()
	got, size := library.Recover([]byte(b))
	expectLib(t, "Recover of "+what, got, api.OK, want, api.OK)
	if size != wantSize {
		t.Errorf("Recover of %s returns %d, want %d", what, size, wantSize)
	}
	wantErr := api.OK
	if wantSize < len(b) {
		wantErr = api.ErrBytes
	}
	got, err := library.Decode([]byte(b))
	expectLib(t, "Decode of "+what, got, err, want, wantErr)
}

// P9.8, P9.9: whole logs. Example 3 is the first one.
func TestRead(t *testing.T) {
	expectRead(t, "no bytes", "", nil, 0)
	for _, list := range [][]api.Entry{textbook(), lib("a 1"), lib("a 1", "b 1", "a 2", "a 3", "b 2", "a2345678 1"), lib("a 1 <- b 7", "b 1 <- a 1, b 1"), numbered(200)} {
		expectRead(t, list[0].Name, logOf(list), list, len(logOf(list)))
		expectRead(t, list[0].Name, logOf(disguisedLib(list)), list, len(logOf(list)))
	}
	if lib, err := library.Decode(nil); len(lib) > 0 || err != api.OK {
		t.Errorf("Decode of nil: %d entries, error %d", len(lib), err)
	}
	if lib, size := library.Recover(nil); len(lib) > 0 || size != 0 {
		t.Errorf("Recover of nil: %d entries, %d", len(lib), size)
	}
}

// P9.8: numbers are canonical.
func TestReadCanonical(t *testing.T) {
	got, err := library.Decode([]byte(logOf(disguisedLib(textbook()))))
	if err != api.OK || len(got) != 6 {
		t.Fatalf("Decode: %d entries, error %d", len(got), err)
	}
	for i, e := range textbook() { // the textbook is read by Parse of claims and proofs, whose numbers are canonical
		if fmt.Sprint(got[i]) != fmt.Sprint(e) {
			t.Errorf("the numbers of %s are not canonical", e.Name)
		}
	}
}

// P9.9: at most MaxEntry entries.
func TestReadLimit(t *testing.T) {
	list := numbered(203)
	expectRead(t, "203 entries", logOf(list), list[:200], len(logOf(list[:200])))
	expectRead(t, "200 entries and a byte", logOf(list[:200])+"\x00", list[:200], len(logOf(list[:200])))
}

// P9.9, P9.12: a log that is cut off at any byte.
func TestReadCut(t *testing.T) {
	list := textbook()
	b := logOf(list)
	whole, size := 0, 0
	for i := range len(b) + 1 {
		if whole < len(list) && i == size+len(recordOf(list[whole])) {
			whole, size = whole+1, i
		}
		expectRead(t, "a beginning", b[:i], list[:whole], size)
	}
	if whole != len(list) {
		t.Errorf("only %d entries are whole", whole)
	}
}

// P9.12: a log with one byte changed in any way keeps what is in front of the changed record, and no more.
func TestReadChanged(t *testing.T) {
	list := append(textbook()[:2], lib("a 1")...)
	texts, b := describe(list), []byte(logOf(list))
	whole, size := 0, 0
	for i := range b {
		if i == size+len(recordOf(list[whole])) {
			whole, size = whole+1, i
		}
		for _, change := range changes(whole == 2) {
			b[i] ^= change
			if got, n := library.Recover(b); n != size || !slices.Equal(describe(got), texts[:whole]) {
				t.Errorf("Recover with byte %d changed by %02x returns %d entries, %d, want %d, %d", i, change, len(got), n, whole, size)
			}
			if got, err := library.Decode(b); len(got) > 0 || err != api.ErrBytes {
				t.Errorf("Decode with byte %d changed by %02x returns %d entries, error %d", i, change, len(got), err)
			}
			b[i] ^= change
		}
	}
}

// changes returns all changes of a byte, or those of one bit alone.
func changes(all bool) []byte {
	var list []byte
	for change := 1; change < 256; change++ {
		if all || change&(change-1) == 0 {
			list = append(list, byte(change))
		}
	}
	return list
}

// P9.9: records with right checksums whose bodies are not right end the reading.
func TestReadWrongBodies(t *testing.T) {
	front, behind := lib("a 1", "b 1"), recordOf(entry("a 2"))
	name, claim, proof := "a", "1 > 0", "0 range 8\n"
	var bodies []string
	for _, bad := range badNames() {
		bodies = append(bodies, body(bad, claim, proof))
	}
	for _, bad := range []string{"", "1", "1 >", "1>0", "1 > 0 ", " 1 > 0", "1 > 0\n", "2/4 > 0", "01 > 0", "1.0 > 0", "(1) > 0", "1 > 1", "0 < 1", "1 >= 0 for x in [0, 1], x in [0, 1]", "x > 0", "1 > 0 for y in [0, 1], x in [0, 1]", "1 > 0 for x in [1, 0]", "1 > 0 for x in [0/1, 1]", "1 > 0 for x in [ 0, 1]", "1 > 0 where 1 > 2", "1 > 0 where", "1 = 0", "1 > 0\x00", sum(api.MaxText-3) + " > 0", sum(api.MaxText) + "0 > 0"} {
		bodies = append(bodies, body(name, bad, proof))
	}
	for _, bad := range []string{"", "\n", "0 range 8", "0 range 8\n\n", " 0 range 8\n", "0 range 08\n", "0  range 8\n", "0 range -1\n", "1 range 8\n", "0 range 8\n0 range 8\n", "0 rise x 8\n", "0 rise x 8\n0 range 8\n", "0 turn X 1\n1 range 8\n", "0 turn x 2/4\n1 range 8\n", "0 same {x+1} 8\n1 range 8\n", "0 unknown 8\n", "0 range 8\r\n", "0 range 9223372036854775808\n"} {
		bodies = append(bodies, body(name, claim, bad))
	}
	bodies = append(bodies, "", body(), body(name), body(name, claim), body(name, claim, proof, ""), body(name, claim, proof, proof), body(name, "", claim, proof), body(claim, name, proof), body(name, proof, claim))
	right := body(name, claim, proof)
	for i := range len(right) {
		bodies = append(bodies, right[:i])
	}
	bodies = append(bodies, right+"\x00", right+"\x00\x00\x00", right+"\xff\xff\xff\xff", "\x00\x00\x00\x02"+right[4:], "\xff\xff\xff\xff"+right[4:], "\x80\x00\x00\x01"+right[4:], right[:5]+"\xff\xff\xff\xff"+right[9:], right[:14]+"\x00\x00\x00\x09"+right[18:], right[:14]+"\x00\x00\x00\x0b"+right[18:], right[:14]+"\xff\xff\xff\xf6"+right[18:])
	size := len(logOf(front))
	for _, wrong := range bodies {
		expectRead(t, "a wrong body", sealed(wrong), nil, 0)
		expectRead(t, "a wrong body behind others", logOf(front)+sealed(wrong)+behind, front, size)
	}
	expectRead(t, "a right body behind others", logOf(front)+sealed(right)+recordOf(entry("a 3")), lib("a 1", "b 1", "a 2", "a 3"), size+2*len(behind))
}

// P9.9: heads that are not right, or whose lengths are too great.
func TestReadWrongHeads(t *testing.T) {
	front, right := lib("a 1", "b 1"), recordOf(entry("a 2"))
	whole, size := logOf(front)+right, len(logOf(front))
	for _, head := range []string{"\x00\x00\x00\x00\x00\x00\x00\x00", "\xff\xff\xff\xff\xff\xff\xff\xff", "\xff\xff\xff\xff\x00\x00\x00\x00", "\x80\x00\x00\x00\x00\x00\x00\x00", "\x7f\xff\xff\xff\x00\x00\x00\x00", "\x00\x00\x00\x00", "\x00"} {
		expectRead(t, "a wrong head", whole[:size]+head+right, front, size)
		expectRead(t, "a wrong head alone", head+right, nil, 0)
		expectRead(t, "a wrong head at the end", whole[:size]+head, front, size)
	}
	length, sum, inner := right[:4], right[4:8], right[8:]
	bare := binary.BigEndian.AppendUint32(nil, crc32.ChecksumIEEE([]byte(inner)))
	for _, wrong := range []string{length + string(bare) + inner, length + backward(sum) + inner, backward(length) + sum + inner, sum + length + inner} {
		expectRead(t, "another checksum", whole[:size]+wrong, front, size)
	}
	expectRead(t, "zeroes", strings.Repeat("\x00", 100), nil, 0)
	expectRead(t, "an empty body", sealed(""), nil, 0)
}

// backward returns the bytes of a text in the other order.
func backward(text string) string {
	b := []byte(text)
	slices.Reverse(b)
	return string(b)
}
