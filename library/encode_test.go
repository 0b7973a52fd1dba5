package library_test

import (
	"slices"
	"strconv"
	"strings"
	"testing"

	"inequality/api"
	"inequality/library"
)

// expectBytes checks what Encode returns.
func expectBytes(t *testing.T, what string, list []api.Entry, want string, wantErr api.Errno) {
	t.Helper()
	got, err := library.Encode(list)
	if err != wantErr || err == api.OK && string(got) != want || err != api.OK && len(got) > 0 {
		t.Errorf("%s: Encode returns %d bytes, error %d, want %d bytes, error %d", what, len(got), err, len(want), wantErr)
	}
}

// P9.7: the records, byte by byte.
func TestEncode(t *testing.T) {
	e := entry("a 1")
	e.Proof.Prec = 999
	record := "\x00\x00\x00\x1e\x00\x99\x58\xbb" + "\x00\x00\x00\x01a" + "\x00\x00\x00\x051 > 0" + "\x00\x00\x00\x0c0 range 999\n"
	expectBytes(t, "one entry", []api.Entry{e}, record, api.OK)
	expectBytes(t, "no entries", nil, "", api.OK)
	expectBytes(t, "textbook", textbook(), logOf(textbook()), api.OK)
	expectBytes(t, "textbook, disguised", disguisedLib(textbook()), logOf(textbook()), api.OK)
	versions := lib("a 1", "b 1", "a 2", "a 3", "b 2", "a2345678 1")
	expectBytes(t, "versions", versions, logOf(versions), api.OK)
	wrong := lib("a 1 <- b 7", "b 1 <- a 1, b 1") // it does not matter that the library is not sound
	wrong[0].Claim = cl("0 > 1 for x in (-inf, 1/3], y in [-2, inf) where x > y, x >= 1")
	expectBytes(t, "unsound", wrong, logOf(wrong), api.OK)
}

// P9.7: the checksum, in parts and as a whole.
func TestChecksum(t *testing.T) {
	if got := library.Checksum([]byte("123456789")); got != 0xCBF43926 {
		t.Errorf("the checksum is %X", got)
	}
	if got := library.Checksum([]byte("1234"), nil, []byte("56789")); got != 0xCBF43926 {
		t.Errorf("the checksum of the parts is %X", got)
	}
	if got := library.Checksum(); got != 0 {
		t.Errorf("the checksum of no bytes is %X", got)
	}
	list := lib("a 1")
	for size := range 600 {
		list[0].Claim = cl(sum(size+1) + " > 0")
		expectBytes(t, "a sum of "+strconv.Itoa(size+1)+" bytes", list, logOf(list), api.OK)
	}
}

// broken are changes that make an entry wrong, in the order of the errors, and these errors.
func broken() ([]func(e *api.Entry), []api.Errno) {
	edits := []func(e *api.Entry){
		func(e *api.Entry) { e.Name = "A" },
		func(e *api.Entry) { e.Ver++ },
		func(e *api.Entry) { e.Claim.Box = []api.Side{{Name: "X"}} },
		func(e *api.Entry) { e.Claim.Goal = ex(sum(api.MaxText)) },
		func(e *api.Entry) { e.Proof.K = 1 },
	}
	return edits, []api.Errno{api.ErrName, api.ErrEntry, api.ErrClaim, api.ErrLimit, api.ErrRule}
}

// P9.7: of several errors of one entry, the first one in the order of the promise is returned.
func TestEncodeOrder(t *testing.T) {
	edits, errs := broken()
	for bits := range 1 << len(edits) {
		list := append(textbook(), lib("a 1", "a 2")...)
		want := api.OK
		for i := range slices.Backward(edits) {
			if bits>>i&1 > 0 {
				edits[i](&list[6])
				want = errs[i]
			}
		}
		if want == api.OK {
			expectBytes(t, "no error", list, logOf(list), api.OK)
		} else {
			expectBytes(t, strconv.Itoa(bits), list, "", want)
		}
	}
}

// P9.7: the errors of an entry come before those of the entries behind it, and those of all entries before that of the whole.
func TestEncodeEntries(t *testing.T) {
	edits, errs := broken()
	for i, first := range edits {
		for _, second := range edits {
			list := lib("c 1", "d 1", "e 1", "f 1")
			first(&list[1])
			second(&list[2])
			expectBytes(t, "two wrong entries", list, "", errs[i])
			expectBytes(t, "wrong entries behind the limit", append(numbered(250), list...), "", errs[i])
		}
	}
	expectBytes(t, "200 entries", numbered(200), logOf(numbered(200)), api.OK)
	expectBytes(t, "201 entries", numbered(201), "", api.ErrLimit)
}

// P9.7: names, versions, claims and proofs that have no record.
func TestEncodeErrors(t *testing.T) {
	for _, name := range badNames() {
		list := append(textbook(), entry("a 1"))
		list[6].Name = name
		expectBytes(t, "name "+name, list, "", api.ErrName)
	}
	for _, texts := range []string{"a 0", "a 2", "a -1", "a 1; a 1", "a 1; a 3", "a 2; a 1", "a 1; b 2", "b 1; a 1; b 2; b 2"} {
		expectBytes(t, "versions "+texts, lib(strings.Split(texts, "; ")...), "", api.ErrEntry)
	}
	list := lib("a 1")
	for _, c := range badClaims() {
		list[0].Claim = c
		expectBytes(t, "invalid claim", list, "", api.ErrClaim)
	}
	kids := []api.Step{pf("0 range 8"), pf("0 range 8")}
	long := api.Expr{Op: api.OpNeg, Kids: []api.Expr{ex(sum(api.MaxText))}}
	for want, proofs := range map[api.Errno][]api.Step{
		api.ErrLimit: {deepProof(), {Rule: api.RuleVia, E: long, Kids: kids}},
		api.ErrRule:  {{}, {Rule: 22}, {Rule: api.RuleRange, K: 1}, {Rule: api.RuleRange, Kids: kids}},
		api.ErrArg:   {{Rule: api.RuleRange, Prec: -1}, {Rule: api.RuleCut, Name: "X", Kids: kids}, {Rule: api.RuleLemma, Kids: kids[:1]}},
	} {
		for _, s := range proofs {
			list := lib("a 1")
			list[0].Proof = s
			expectBytes(t, "proof", list, "", want)
		}
	}
}

// P9.7: a claim and an expression of a proof may have texts of MaxText bytes.
func TestEncodeLongTexts(t *testing.T) {
	list := lib("a 1")
	list[0].Claim = cl(sum(api.MaxText-4) + " > 0")
	list[0].Proof = longProof([]int{api.MaxText})
	expectBytes(t, "long texts", list, logOf(list), api.OK)
	list[0].Claim.Strict = false
	expectBytes(t, "too long a claim", list, "", api.ErrLimit)
}

// bulkyLib returns a library whose records have MaxBytes bytes in all.
func bulkyLib() []api.Entry {
	list := lib("a 1")
	rest := api.MaxBytes - len(recordOf(list[0]))
	for i := range 10 {
		list = append(list, bulky("b "+strconv.Itoa(i+1), 100000))
		rest -= 100000
	}
	return append(list, bulky("c 1", rest))
}

// P9.7, P9.8, P9.9: the limit of bytes.
func TestBytesLimit(t *testing.T) {
	list := bulkyLib()
	size := len(recordOf(list[11]))
	expectBytes(t, "MaxBytes", list, logOf(list), api.OK)
	expectRead(t, "MaxBytes", logOf(list), list, api.MaxBytes)
	more := append(slices.Clone(list), entry("d 1"))
	expectBytes(t, "a record more", more, "", api.ErrLimit)
	expectRead(t, "a record more", logOf(more), list, api.MaxBytes)
	longer := append(slices.Clone(list[:11]), bulky("c 1", size+1), entry("d 1"))
	expectBytes(t, "a byte more", longer[:12], "", api.ErrLimit)
	expectRead(t, "a byte more", logOf(longer), list[:11], api.MaxBytes-size)
	longer[12].Name = "D"
	expectBytes(t, "a byte more, and a wrong name", longer, "", api.ErrName)
}
