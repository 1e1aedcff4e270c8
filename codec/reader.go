package codec

import "arboretum/api"

// Reader takes up what a writer lays. Whoever uses it need not look behind each call: what was wrong first is kept, and told at the end.
type Reader struct {
	tape
	place int
	wrong api.Errno
}

// Read is a reader of s.
func Read(s string) *Reader { return &Reader{tape: tape{bytes: []byte(s)}} }

// Num takes up a number.
func (r *Reader) Num() int { return unzigzag(r.sevens()) }

// Flag takes up a flag.
func (r *Reader) Flag() bool {
	if r.place == r.size() {
		r.fail(api.ErrCodecShort)
	} else if r.bytes[r.place] > 1 {
		r.fail(api.ErrCodecForm)
	}
	if r.wrong != api.OK {
		return false
	}
	r.place++
	return r.bytes[r.place-1] == 1
}

// Text takes up a text of at most so many bytes.
func (r *Reader) Text(most int) string {
	n := r.Count(most)
	if n > r.size()-r.place {
		r.fail(api.ErrCodecShort)
	}
	if r.wrong != api.OK {
		return ""
	}
	r.place += n
	return r.piece(r.place-n, r.place)
}

// Count takes up a count of at most that.
func (r *Reader) Count(most int) int {
	n := r.sevens()
	if n > uint64(max(most, 0)) {
		r.fail(api.ErrCodecLong)
		return 0
	}
	return int(n)
}

// Fail tells the reader that what it has taken up may not be, though each part may.
func (r *Reader) Fail() { r.fail(api.ErrCodecForm) }

// End is what was wrong first; bytes that nobody took up are wrong, too.
func (r *Reader) End() api.Errno {
	if r.place != r.size() {
		r.fail(api.ErrCodecForm)
	}
	return r.wrong
}

func (r *Reader) fail(e api.Errno) {
	if r.wrong == api.OK {
		r.wrong = e
	}
}

// sevens is 0 once something is wrong, so that its callers need not ask.
func (r *Reader) sevens() uint64 {
	if r.wrong != api.OK {
		return 0
	}
	n, length, e := getSevens(r.bytes[r.place:])
	r.place += length
	r.wrong = e
	return n
}
