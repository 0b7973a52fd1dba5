package library

import (
	"iter"

	"inequality/api"
	"inequality/check"
	"inequality/claim"
	"inequality/expr"
)

const (
	wordSize   = 4          // bytes of a number in a record
	polynomial = 0xEDB88320 // of the checksum
)

// head is what stands in front of the body of a record: the length of the body, and the checksum of this length and the body.
type head [2 * wordSize]byte

// headOf returns the head of a record with this body.
func headOf(body []byte) head {
	size := word(uint32(len(body)))
	sum := word(checksum(size, body))
	return head(append(size, sum...))
}

// word returns the bytes of a number, the most significant one first.
func word(n uint32) []byte {
	return []byte{byte(n >> 24), byte(n >> 16), byte(n >> 8), byte(n)}
}

// number returns the number of the bytes of a word.
func number(word []byte) int {
	n := 0
	for _, b := range word {
		n = n<<8 | int(b)
	}
	return n
}

// checksum returns the checksum of bytes in several parts.
func checksum(parts ...[]byte) uint32 {
	sum := ^uint32(0)
	for _, part := range parts {
		for _, b := range part {
			sum ^= uint32(b)
			for range 8 {
				out := sum & 1
				sum = sum>>1 ^ out*polynomial
			}
		}
	}
	return ^sum
}

// record returns the record whose body consists of these texts.
func record(texts ...string) []byte {
	var body []byte
	for _, text := range texts {
		body = append(body, word(uint32(len(text)))...)
		body = append(body, text...)
	}
	h := headOf(body)
	return append(h[:], body...)
}

// records yields the bodies of the whole records with right checksums with which b begins, each with the number of bytes up to its end.
func records(b []byte) iter.Seq2[int, []byte] {
	return func(yield func(end int, body []byte) bool) {
		end := 0
		for {
			body, ok := bodyOf(b[end:])
			if !ok {
				return
			}
			end += len(head{}) + len(body)
			if !yield(end, body) {
				return
			}
		}
	}
}

// bodyOf returns the body of the record with which b begins and true, or false if the record is not whole or its checksum is not right.
func bodyOf(b []byte) ([]byte, bool) {
	if len(b) < len(head{}) {
		return nil, false
	}
	h, rest := head(b[:len(head{})]), b[len(head{}):]
	size := number(h[:wordSize])
	if size > len(rest) {
		return nil, false
	}
	body := rest[:size]
	return body, headOf(body) == h
}

// textsOf returns the texts of a body and true, or false if it does not consist of texts.
func textsOf(body []byte) ([]string, bool) {
	var texts []string
	for len(body) > 0 {
		if len(body) < wordSize {
			return nil, false
		}
		size, rest := number(body[:wordSize]), body[wordSize:]
		if size > len(rest) {
			return nil, false
		}
		texts = append(texts, string(rest[:size]))
		body = rest[size:]
	}
	return texts, true
}

// entryOf returns the entry of a body, still without its version, and true, or false if the body is not right.
func entryOf(body []byte) (api.Entry, bool) {
	texts, ok := textsOf(body)
	if !ok || len(texts) != 3 || !expr.IsName(texts[0]) {
		return api.Entry{}, false
	}
	c, _, claimErr := claim.Parse(texts[1])
	text, _ := claim.Print(c)
	s, _, proofErr := check.Parse(texts[2])
	if claimErr != api.OK || text != texts[1] || proofErr != api.OK {
		return api.Entry{}, false
	}
	return api.Entry{Name: texts[0], Claim: c, Proof: s}, true
}
