package codec_test

import (
	"hash/fnv"
	"math"
	"math/rand"
	"strings"
	"testing"

	"arboretum/api"
	"arboretum/codec"
)

// edges are numbers at which a digit, a sign or a width changes.
func edges() []int {
	l := []int{0, 300, -3, 4095, 4096, 4097, 65536}
	for k := range 64 {
		for d := -2; d <= 2; d++ {
			n := 1<<k + d
			l = append(l, n, -n)
		}
	}
	return l
}

func allBytes() string {
	l := make([]byte, 256)
	for i := range l {
		l[i] = byte(i)
	}
	return string(l)
}

func laid(lay func(w *codec.Writer)) string {
	w := codec.New()
	lay(w)
	return w.Bytes()
}

func TestK1Example(t *testing.T) {
	w := codec.New()
	w.Num(-3)
	w.Flag(true)
	w.Text("ab")
	w.Count(300)
	if got, want := w.Bytes(), string([]byte{5, 1, 2, 97, 98, 172, 2}); got != want {
		t.Errorf("%q, want %q", got, want)
	}
}

func TestK1Nothing(t *testing.T) {
	if s := codec.New().Bytes(); s != "" {
		t.Errorf("a new writer has laid %q", s)
	}
}

func TestK1Numbers(t *testing.T) {
	for _, n := range edges() {
		if got, want := laid(func(w *codec.Writer) { w.Num(n) }), laidNum(n); got != want {
			t.Errorf("Num(%d): %q, want %q", n, got, want)
		}
		if got, want := laid(func(w *codec.Writer) { w.Count(n) }), laidCount(n); got != want {
			t.Errorf("Count(%d): %q, want %q", n, got, want)
		}
	}
	for n, want := range map[int]string{
		0: "\x00", -1: "\x01", 1: "\x02", 63: "\x7e", -64: "\x7f", 64: "\x80\x01", -65: "\x81\x01",
		math.MaxInt: "\xfe" + strings.Repeat("\xff", 8) + "\x01",
		math.MinInt: strings.Repeat("\xff", 9) + "\x01",
	} {
		if got := laid(func(w *codec.Writer) { w.Num(n) }); got != want {
			t.Errorf("Num(%d): %q, want %q", n, got, want)
		}
	}
	for n, want := range map[int]string{
		0: "\x00", 1: "\x01", 127: "\x7f", 128: "\x80\x01", 300: "\xac\x02", -1: "\x00", math.MinInt: "\x00",
		math.MaxInt: strings.Repeat("\xff", 8) + "\x7f",
	} {
		if got := laid(func(w *codec.Writer) { w.Count(n) }); got != want {
			t.Errorf("Count(%d): %q, want %q", n, got, want)
		}
	}
}

func TestK1FlagsAndTexts(t *testing.T) {
	for is, want := range map[bool]string{true: "\x01", false: "\x00"} {
		if got := laid(func(w *codec.Writer) { w.Flag(is) }); got != want {
			t.Errorf("Flag(%t): %q, want %q", is, got, want)
		}
	}
	for _, n := range []int{0, 1, 2, 127, 128, 129, 255, 256, 4096, 4097, 16383, 16384, 65536, 1 << 20} {
		s := strings.Repeat("x", n)
		if got := laid(func(w *codec.Writer) { w.Text(s) }); got != laidText(s) {
			t.Errorf("Text of %d bytes: begins with %q", n, got[:min(5, len(got))])
		}
	}
	for _, s := range []string{allBytes(), "\x00", "äß€", "\xff\xfe", "a\x00b\x80"} {
		if got := laid(func(w *codec.Writer) { w.Text(s) }); got != laidText(s) {
			t.Errorf("Text(%q): %q", s, got)
		}
	}
}

func TestK1AllInOrder(t *testing.T) {
	a, b := codec.New(), codec.New()
	want := ""
	for i, n := range edges() {
		a.Num(n)
		b.Text("other")
		b.Flag(true)
		a.Flag(i%3 == 0)
		a.Count(n)
		a.Text(strings.Repeat("y", i%200))
		had := a.Bytes()
		want += laidNum(n) + laidFlag(i%3 == 0) + laidCount(n) + laidText(strings.Repeat("y", i%200))
		if had != want || a.Bytes() != want {
			t.Fatalf("behind %d rounds: not what was laid", i+1)
		}
	}
	if got, want := b.Bytes(), strings.Repeat("\x05other\x01", len(edges())); got != want {
		t.Errorf("the other writer: %q", got)
	}
}

// TestK1ToldStays: what Bytes told is not changed by what is laid behind it.
func TestK1ToldStays(t *testing.T) {
	w := codec.New()
	told, want := []string{}, []string{""}
	for i := range 300 {
		told = append(told, w.Bytes())
		w.Num(i)
		want = append(want, want[i]+laidNum(i))
	}
	for i, s := range told {
		if s != want[i] {
			t.Fatalf("what was told behind %d numbers is %q now", i, s)
		}
	}
}

// sevensTexts are texts around what is laid as sevens: all short ones, and long ones that end in each edge of a byte.
func sevensTexts() []string {
	l := []string{""}
	for a := range 256 {
		l = append(l, string([]byte{byte(a)}))
		for b := range 256 {
			l = append(l, string([]byte{byte(a), byte(b)}))
		}
	}
	for n := 2; n <= 12; n++ {
		for _, middle := range []string{"\x80", "\x81", "\xff", "\xaa"} {
			for _, last := range []byte{0, 1, 2, 3, 63, 64, 126, 127, 128, 129, 130, 255} {
				s := strings.Repeat(middle, n) + string([]byte{last})
				l = append(l, s, s+"\x00", s+"\x01", "\xfe"+s, "\x80"+s)
			}
		}
	}
	return l
}

func TestK2Numbers(t *testing.T) {
	for _, s := range sevensTexts() {
		r, m := codec.Read(s), &model{text: s}
		if got, want := r.Num(), m.num(); got != want {
			t.Fatalf("Num of %q: %d, want %d", s, got, want)
		}
		if got, want := r.Num(), m.num(); got != want {
			t.Fatalf("the second Num of %q: %d, want %d", s, got, want)
		}
		if got, want := r.End(), m.end(); got != want {
			t.Fatalf("End of %q: %d, want %d", s, got, want)
		}
	}
	for _, n := range edges() {
		r := codec.Read(laidNum(n) + laidNum(-7))
		if got, next, e := r.Num(), r.Num(), r.End(); got != n || next != -7 || e != api.OK {
			t.Errorf("Num of what %d is laid as: %d, then %d, then %d", n, got, next, e)
		}
	}
}

func TestK2Wrong(t *testing.T) {
	nines := strings.Repeat("\xff", 9)
	for _, c := range []struct {
		s string
		e api.Errno
	}{
		{"", api.ErrCodecShort},
		{"\x80", api.ErrCodecShort},
		{strings.Repeat("\x80", 9), api.ErrCodecShort},
		{nines, api.ErrCodecShort},
		{"\x80\x00", api.ErrCodecForm},
		{"\xff\x80\x00", api.ErrCodecForm},
		{nines + "\x00", api.ErrCodecForm},
		{nines + "\x02", api.ErrCodecForm},
		{nines + "\x80", api.ErrCodecForm}, // not short: the tenth byte is looked at first
		{nines + "\x81", api.ErrCodecForm},
		{nines + "\xff", api.ErrCodecForm},
		{nines + "\x80\x01", api.ErrCodecForm},
	} {
		r := codec.Read(c.s)
		if n, e := r.Num(), r.End(); n != 0 || e != c.e {
			t.Errorf("Num of %q: %d, %d, want 0, %d", c.s, n, e, c.e)
		}
		r = codec.Read(c.s)
		if n, e := r.Count(math.MaxInt), r.End(); n != 0 || e != c.e {
			t.Errorf("Count of %q: %d, %d, want 0, %d", c.s, n, e, c.e)
		}
	}
	r := codec.Read(nines + "\x01")
	if n, e := r.Num(), r.End(); n != math.MinInt || e != api.OK {
		t.Errorf("Num of ten bytes: %d, %d", n, e)
	}
}

func TestK3Flags(t *testing.T) {
	for b := range 256 {
		r := codec.Read(string([]byte{byte(b), 1}))
		got, next, e := r.Flag(), r.Flag(), r.End()
		if b <= 1 && (got != (b == 1) || !next || e != api.OK) {
			t.Errorf("Flag of %d, 1: %t, %t, %d", b, got, next, e)
		}
		if b > 1 && (got || next || e != api.ErrCodecForm) {
			t.Errorf("Flag of %d, 1: %t, %t, %d", b, got, next, e)
		}
	}
	r := codec.Read("\x01")
	if first, second, e := r.Flag(), r.Flag(), r.End(); !first || second || e != api.ErrCodecShort {
		t.Errorf("two Flags of one byte: %t, %t, %d", first, second, e)
	}
}

func TestK3Counts(t *testing.T) {
	for _, s := range sevensTexts() {
		for _, most := range []int{math.MinInt, -1, 0, 1, 127, 128, 300, math.MaxInt - 1, math.MaxInt} {
			r, m := codec.Read(s), &model{text: s}
			if got, want := r.Count(most), m.count(most); got != want {
				t.Fatalf("Count(%d) of %q: %d, want %d", most, s, got, want)
			}
			if got, want := r.End(), m.end(); got != want {
				t.Fatalf("Count(%d) of %q: End: %d, want %d", most, s, got, want)
			}
		}
	}
	for _, n := range edges() {
		if n < 0 {
			continue
		}
		r := codec.Read(laidCount(n) + "\x01")
		if got, is, e := r.Count(n), r.Flag(), r.End(); got != n || !is || e != api.OK {
			t.Errorf("Count(%d) of what it is laid as: %d, %t, %d", n, got, is, e)
		}
		r = codec.Read(laidCount(n) + "\x01")
		if got, is, e := r.Count(n-1), r.Flag(), r.End(); n > 0 && (got != 0 || is || e != api.ErrCodecLong) {
			t.Errorf("Count(%d) of %d: %d, %t, %d", n-1, n, got, is, e)
		}
	}
}

func TestK3Texts(t *testing.T) {
	for _, c := range []struct {
		s    string
		most int
		text string
		e    api.Errno
	}{
		{"\x00", 0, "", api.OK},
		{"\x00", -1, "", api.OK},
		{"\x00", math.MinInt, "", api.OK},
		{"\x00a", 0, "", api.ErrCodecForm},
		{"\x02ab", 2, "ab", api.OK},
		{"\x02ab", math.MaxInt, "ab", api.OK},
		{"\x02ab", 1, "", api.ErrCodecLong},
		{"\x02ab", -1, "", api.ErrCodecLong},
		{"\x02abc", 2, "ab", api.ErrCodecForm},
		{"", 5, "", api.ErrCodecShort},
		{"\x03", 3, "", api.ErrCodecShort},
		{"\x03a", 9, "", api.ErrCodecShort},
		{"\x03ab", 3, "", api.ErrCodecShort},
		{"\x03a", 2, "", api.ErrCodecLong}, // too long, and too few bytes are left: the count comes first
		{"\x81", 9, "", api.ErrCodecShort},
		{"\x81\x00a", 9, "", api.ErrCodecForm},
		{"\xff\xff\xff\xff\xff\xff\xff\xff\x7f", math.MaxInt, "", api.ErrCodecShort},
		{"\xff\xff\xff\xff\xff\xff\xff\xff\xff\x01", math.MaxInt, "", api.ErrCodecLong},
	} {
		r := codec.Read(c.s)
		if s, e := r.Text(c.most), r.End(); s != c.text || e != c.e {
			t.Errorf("Text(%d) of %q: %q, %d, want %q, %d", c.most, c.s, s, e, c.text, c.e)
		}
	}
	for _, n := range []int{0, 1, 127, 128, 4096, 16384, 65536} {
		s := strings.Repeat("z", n)
		r := codec.Read(laidText(s) + laidText(allBytes()) + "\x01")
		if a, b, is, e := r.Text(n), r.Text(256), r.Flag(), r.End(); a != s || b != allBytes() || !is || e != api.OK {
			t.Errorf("Text(%d) and what follows: %d bytes, %d bytes, %t, %d", n, len(a), len(b), is, e)
		}
	}
}

// taken is what is left to be taken up from a reader once something is wrong with it: nothing.
func taken(r *codec.Reader) bool {
	return r.Num() != 0 || r.Flag() || r.Text(math.MaxInt) != "" || r.Count(math.MaxInt) != 0
}

func TestK4First(t *testing.T) {
	const rest = "\x05\x01\x02ab\x07\x01"
	for _, c := range []struct {
		name, s string
		spoil   func(r *codec.Reader)
		e       api.Errno
	}{
		{"Fail", rest, func(r *codec.Reader) { r.Fail() }, api.ErrCodecForm},
		{"End", rest, func(r *codec.Reader) { r.End() }, api.ErrCodecForm},
		{"a flag of 2", "\x02" + rest, func(r *codec.Reader) { r.Flag() }, api.ErrCodecForm},
		{"a number of a nought", "\x80\x00" + rest, func(r *codec.Reader) { r.Num() }, api.ErrCodecForm},
		{"a long count", rest, func(r *codec.Reader) { r.Count(4) }, api.ErrCodecLong},
		{"a long text", rest, func(r *codec.Reader) { r.Text(4) }, api.ErrCodecLong},
		{"a short text", "\x40" + rest, func(r *codec.Reader) { r.Text(99) }, api.ErrCodecShort},
		{"a short number", "\x80", func(r *codec.Reader) { r.Num() }, api.ErrCodecShort},
		{"a short count", "\x80", func(r *codec.Reader) { r.Count(9) }, api.ErrCodecShort},
		{"no flag", "", func(r *codec.Reader) { r.Flag() }, api.ErrCodecShort},
	} {
		r := codec.Read(c.s)
		c.spoil(r)
		for range 3 {
			if taken(r) {
				t.Errorf("%s: something was taken up behind it", c.name)
			}
			if r.Text(0) != "" || r.Count(0) != 0 {
				t.Errorf("%s: something was taken up behind it", c.name)
			}
			r.Fail()
			if e := r.End(); e != c.e {
				t.Errorf("%s: End: %d, want %d", c.name, e, c.e)
			}
		}
	}
}

func TestK4End(t *testing.T) {
	r := codec.Read("")
	for range 2 {
		if e := r.End(); e != api.OK {
			t.Errorf("End of nothing: %d", e)
		}
	}
	r.Fail()
	if e := r.End(); e != api.ErrCodecForm {
		t.Errorf("End behind Fail: %d", e)
	}
	r = codec.Read("\x02")
	if n, e, again := r.Num(), r.End(), r.End(); n != 1 || e != api.OK || again != api.OK {
		t.Errorf("Num, End, End: %d, %d, %d", n, e, again)
	}
	if is, e := r.Flag(), r.End(); is || e != api.ErrCodecShort {
		t.Errorf("Flag behind the end: %t, %d", is, e)
	}
	r = codec.Read("\x00\x00")
	if n, e := r.Num(), r.End(); n != 0 || e != api.ErrCodecForm {
		t.Errorf("Num of one of two: %d, %d", n, e)
	}
}

// TestReadersAlone: two readers of one text know nothing of one another.
func TestReadersAlone(t *testing.T) {
	s := laidNum(-3) + laidText("ab")
	a, b, c := codec.Read(s), codec.Read(s), codec.Read("\x02")
	c.Flag()
	if n := a.Num(); n != -3 {
		t.Errorf("the first reader: %d", n)
	}
	if n, s, e := b.Num(), b.Text(2), b.End(); n != -3 || s != "ab" || e != api.OK {
		t.Errorf("the second reader: %d, %q, %d", n, s, e)
	}
	if s, e := a.Text(2), a.End(); s != "ab" || e != api.OK {
		t.Errorf("the first reader: %q, %d", s, e)
	}
	if e := c.End(); e != api.ErrCodecForm {
		t.Errorf("the third reader: %d", e)
	}
}

// TestK2ToK4AnyCalls holds any calls on any bytes against the model.
func TestK2ToK4AnyCalls(t *testing.T) {
	x := rand.New(rand.NewSource(1))
	mosts := []int{math.MinInt, -1, 0, 1, 2, 3, 5, 127, 128, 300, 4096, math.MaxInt}
	for round := range 30000 {
		s := someBytes(x)
		r, m := codec.Read(s), &model{text: s}
		for range 12 {
			most := mosts[x.Intn(len(mosts))]
			var got, want any
			switch x.Intn(16) {
			case 0, 1, 2, 3:
				got, want = r.Num(), m.num()
			case 4, 5, 6, 7:
				got, want = r.Flag(), m.flag()
			case 8, 9, 10:
				got, want = r.Text(most), m.takeText(most)
			case 11, 12, 13:
				got, want = r.Count(most), m.count(most)
			case 14:
				if x.Intn(4) == 0 {
					r.Fail()
					m.fail()
				}
			case 15:
				if x.Intn(4) == 0 {
					got, want = r.End(), m.end()
				}
			}
			if got != want {
				t.Fatalf("round %d: of %q: %v, want %v", round, s, got, want)
			}
		}
		if got, want := r.End(), m.end(); got != want {
			t.Fatalf("round %d: End of %q: %d, want %d", round, s, got, want)
		}
	}
}

func someBytes(x *rand.Rand) string {
	l := make([]byte, x.Intn(24))
	for i := range l {
		switch x.Intn(4) {
		case 0:
			l[i] = byte(x.Intn(256))
		case 1:
			l[i] = byte(128 + x.Intn(2)*127)
		default:
			l[i] = byte(x.Intn(4))
		}
	}
	return string(l)
}

func TestK5(t *testing.T) {
	for s, want := range map[string]uint32{"": 2166136261, "a": 3826002220, "foobar": 0xbf9cf968, "\x00": 0x050c5d1f} {
		if got := codec.Sum(s); got != want {
			t.Errorf("Sum(%q): %d, want %d", s, got, want)
		}
	}
	for n := range 300 {
		s := strings.Repeat(allBytes(), 2)[n : n+n/2]
		h := fnv.New32a()
		h.Write([]byte(s))
		if got, want := codec.Sum(s), h.Sum32(); got != want {
			t.Errorf("Sum(%q): %d, want %d", s, got, want)
		}
	}
	long := strings.Repeat("0123456789", 7000)
	h := fnv.New32a()
	h.Write([]byte(long))
	if got, want := codec.Sum(long), h.Sum32(); got != want {
		t.Errorf("Sum of 70000 bytes: %d, want %d", got, want)
	}
}

// call is one call of a writer's, and the same one of a reader's.
type call struct {
	kind, n int
	is      bool
	s       string
}

func someCall(x *rand.Rand) call {
	n := int(x.Uint64()) >> x.Intn(64)
	return call{x.Intn(4), n, x.Intn(2) == 0, someBytes(x)}
}

func (c call) lay(w *codec.Writer) {
	switch c.kind {
	case 0:
		w.Num(c.n)
	case 1:
		w.Flag(c.is)
	case 2:
		w.Text(c.s)
	case 3:
		w.Count(c.n)
	}
}

// take is the call with what the reader has taken up in it.
func (c call) take(r *codec.Reader, more int) call {
	switch c.kind {
	case 0:
		return call{kind: 0, n: r.Num()}
	case 1:
		return call{kind: 1, is: r.Flag()}
	case 2:
		return call{kind: 2, s: r.Text(len(c.s) + more)}
	}
	return call{kind: 3, n: r.Count(max(c.n, 0) + more)}
}

// bare is the call without what its kind does not have.
func (c call) bare() call {
	switch c.kind {
	case 0:
		return call{kind: 0, n: c.n}
	case 1:
		return call{kind: 1, is: c.is}
	case 2:
		return call{kind: 2, s: c.s}
	}
	return call{kind: 3, n: max(c.n, 0)}
}

func TestK6LaidIsTaken(t *testing.T) {
	x := rand.New(rand.NewSource(2))
	for round := range 5000 {
		calls := make([]call, x.Intn(20))
		w := codec.New()
		for i := range calls {
			calls[i] = someCall(x)
			calls[i].lay(w)
		}
		r := codec.Read(w.Bytes())
		for _, c := range calls {
			if got := c.take(r, 0); got != c.bare() {
				t.Fatalf("round %d: %v, want %v", round, got, c.bare())
			}
		}
		if e := r.End(); e != api.OK {
			t.Fatalf("round %d: End: %d", round, e)
		}
	}
}

func TestK6TakenIsLaid(t *testing.T) {
	x := rand.New(rand.NewSource(3))
	right := 0
	for range 200000 {
		s := someBytes(x)
		r, w := codec.Read(s), codec.New()
		for range 1 + x.Intn(5) {
			c := someCall(x)
			c.n, c.s = 0, ""
			c.take(r, math.MaxInt).lay(w)
		}
		if r.End() != api.OK {
			continue
		}
		right++
		if got := w.Bytes(); got != s {
			t.Fatalf("%q was taken up, and laid as %q", s, got)
		}
	}
	if right < 1000 {
		t.Errorf("only %d texts were taken up", right)
	}
}

func TestK6UnlikeSums(t *testing.T) {
	for n := 1; n <= 40; n++ {
		l := []byte(strings.Repeat("ab\x00\xff", 10)[:n])
		sum := codec.Sum(string(l))
		for i := range l {
			was := l[i]
			for b := range 256 {
				l[i] = byte(b)
				if (codec.Sum(string(l)) == sum) != (l[i] == was) {
					t.Fatalf("of %d bytes, the byte %d being %d, not %d: the sums are alike", n, i, b, was)
				}
			}
			l[i] = was
		}
	}
}
