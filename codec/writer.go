package codec

// Writer lays numbers, flags, texts and counts, one behind the other.
type Writer struct {
	tape
}

// New is a writer that has laid nothing.
func New() *Writer { return &Writer{} }

// Num lays a number, below 0 too.
func (w *Writer) Num(n int) { w.bytes = putSevens(w.bytes, zigzag(n)) }

// Flag lays a flag.
func (w *Writer) Flag(is bool) {
	b := byte(0)
	if is {
		b = 1
	}
	w.bytes = append(w.bytes, b)
}

// Text lays a text behind the count of its bytes.
func (w *Writer) Text(s string) {
	w.Count(len(s))
	w.bytes = append(w.bytes, s...)
}

// Count lays how many there are of something.
func (w *Writer) Count(n int) { w.bytes = putSevens(w.bytes, uint64(max(n, 0))) }

// Bytes is all that was laid so far.
func (w *Writer) Bytes() string { return w.piece(0, w.size()) }
