// Package codec is layer 1: numbers, flags, texts and counts as bytes, each in one form alone. See shared/doc/01-codec.md.
package codec

// tape is what a writer and a reader have in common: bytes, which the one lays and the other goes through.
type tape struct {
	bytes []byte
}

func (t *tape) size() int { return len(t.bytes) }

// piece is a copy: what was told stays, whatever becomes of the tape.
func (t *tape) piece(from, to int) string { return string(t.bytes[from:to]) }

// Sum tells texts of one length apart that differ in one byte: 16777619 is odd, so no step takes two unlike sums to one.
func Sum(s string) uint32 {
	h := uint32(2166136261)
	for i := range len(s) {
		h = (h ^ uint32(s[i])) * 16777619
	}
	return h
}
