package path_test

import (
	"math"
	"math/rand"
	"slices"
	"strings"
	"testing"

	"arboretum/api"
	"arboretum/path"
)

// textsOf are all texts of at most so many of the parts.
func textsOf(most int, parts ...string) []string {
	all, last := []string{""}, []string{""}
	for range most {
		next := []string{}
		for _, s := range last {
			for _, part := range parts {
				next = append(next, s+part)
			}
		}
		all = append(all, next...)
		last = next
	}
	return all
}

// longs are texts at and around the limits, and far beyond them.
func longs() []string {
	l := []string{}
	for n := 55; n <= 65; n++ {
		l = append(l, "/"+strings.Repeat("x", n-1), strings.Repeat("/x", n/2), "/"+strings.Repeat(".", n-1), strings.Repeat("/", n))
		l = append(l, "/a/"+strings.Repeat("y", n-3), "/"+strings.Repeat("z", n-3)+"/b", "/a/b/c/d/e/"+strings.Repeat("f", n-11))
		l = append(l, strings.Repeat("/xxxxxxxxx", n/10)+strings.Repeat("x", n%10))
	}
	for n := range 20 {
		l = append(l, strings.Repeat("/a", n), strings.Repeat("/ab-", n), strings.Repeat("/...", n))
	}
	return append(l, strings.Repeat("/a", 1<<18), "/"+strings.Repeat("x", 1<<18), strings.Repeat("/", 1<<18), strings.Repeat("x", 1<<18))
}

// runes are those around the ones of names, those that end in a byte of one, and those at the edges of their kind.
func runes() []rune {
	l := []rune{0x7f, 0x80, 0xff, 0x100, 0x7ff, 0x800, 0xd7ff, 0xe000, 0xfffd, 0xffff, 0x10000, 0x10ffff}
	for _, r := range nameBytes + "/" {
		l = append(l, r+0x80, r+0x100, r+0x1f00, r+0x10000, r+0x100000)
	}
	// And letters, digits, dots and slashes of other kinds: the long s and the Kelvin sign fold to ones of names.
	return append(l, 0xdf, 0xe4, 0xe9, 0x17f, 0x212a, 0x3a9, 0x44f, 0x663, 0xff10, 0xff41, 0xff0f, 0xff0e, 0x2215, 0x5b57, 0x1f600)
}

// spoilers are what may not stand in a path: all bytes but those that may, and runes of several bytes.
func spoilers() []string {
	l := []string{}
	for b := range 256 {
		if strings.IndexByte(nameBytes+"/", byte(b)) < 0 {
			l = append(l, string([]byte{byte(b)}))
		}
	}
	for _, r := range runes() {
		l = append(l, string(r))
	}
	return append(l, "\xc3/", "\xe2\x82", "\xed\xa0\x80", "\xc1\xa1", "\xc0\xaf", "\xf4\x90\x80\x80", "\xf0\x9f\x98")
}

// someTexts are texts of any bytes, most of them such as stand in paths.
func someTexts(n int) []string {
	x := rand.New(rand.NewSource(5))
	l := make([]string, n)
	for i := range l {
		s := make([]byte, x.Intn(70))
		for k := range s {
			switch x.Intn(40) {
			case 0:
				s[k] = byte(x.Intn(256))
			case 1, 2, 3, 4, 5:
				s[k] = '/'
			default:
				s[k] = nameBytes[x.Intn(len(nameBytes))]
			}
		}
		l[i] = string(s)
	}
	return l
}

// somePaths are paths of 1 to 6 names, of up to 60 bytes.
func somePaths(n int) []string {
	x := rand.New(rand.NewSource(6))
	l := []string{"/a", "/...", "/a.b/C_-0", "/.a/a./..a/a..", "/-/_/0", "/a/b/c/d/e/f", "/" + strings.Repeat("x", 59), strings.Repeat("/xxxxxxxxx", 6)}
	for len(l) < n {
		p := ""
		for range 1 + x.Intn(6) {
			name := make([]byte, 1+x.Intn(12))
			for k := range name {
				name[k] = nameBytes[x.Intn(len(nameBytes))]
			}
			p += "/" + string(name)
		}
		if check(p) == api.OK {
			l = append(l, p)
		}
	}
	return l
}

func checks(t *testing.T, p string, want api.Errno) {
	t.Helper()
	if got := path.Check(p); got != want {
		t.Errorf("Check(%.80q): %d, want %d", p, got, want)
	}
}

func TestExamples(t *testing.T) {
	for _, p := range []string{"/", "/a", "/a.b/C_-0"} {
		checks(t, p, api.OK)
	}
	for _, p := range []string{"", "a", "/a/", "//a", "/a b", "/.", "/a/.."} {
		checks(t, p, api.ErrPathForm)
	}
	checks(t, "/a/b/c/d/e/f/g", api.ErrPathLong)
	checks(t, "/"+strings.Repeat("x", 60), api.ErrPathLong)
	for i, c := range [][2]string{
		{path.Parent("/a/b"), "/a"}, {path.Parent("/a"), "/"}, {path.Parent("/"), ""},
		{path.Base("/a/b"), "b"}, {path.Kid("/", "a"), "/a"},
		{path.Numbered("/q-", 7), "/q-0000000007"}, {path.Numbered("", 12345678901), "2345678901"},
	} {
		if c[0] != c[1] {
			t.Errorf("text %d: %q, want %q", i, c[0], c[1])
		}
	}
	for i, c := range [][2]bool{
		{path.Under("/a/b", "/a"), true}, {path.Under("/ab", "/a"), false}, {path.Under("/", "/"), false},
	} {
		if c[0] != c[1] {
			t.Errorf("flag %d: %t", i, c[0])
		}
	}
}

func TestQ1Names(t *testing.T) {
	for i := range len(nameBytes) {
		c := nameBytes[i : i+1]
		want := api.OK
		if c == "." {
			want = api.ErrPathForm
		}
		checks(t, "/"+c, want)
		checks(t, "/a/"+c, want)
		checks(t, "/"+c+"/a", want)
		for _, p := range []string{"/x" + c, "/" + c + "x", "/x" + c + "x/y", "/..." + c} {
			checks(t, p, api.OK)
		}
		checks(t, c, api.ErrPathForm)
	}
	for _, name := range []string{"", ".", ".."} {
		for _, p := range []string{"/" + name + "/a", "/a/" + name, "/a/" + name + "/b", "/a/" + name + "/", "//" + name, "/a/b/c/d/e/" + name, "/a/b/c/d/e/f/" + name} {
			checks(t, p, api.ErrPathForm)
		}
	}
	for _, name := range []string{"...", "....", ".a", "..a", "a.", "a..", ".-", "._", ".0", "-", "_", "-.", "a.b"} {
		for _, p := range []string{"/" + name, "/" + name + "/a", "/a/" + name, "/a/" + name + "/b"} {
			checks(t, p, api.OK)
		}
	}
}

func TestQ1Spoiled(t *testing.T) {
	for _, s := range spoilers() {
		for _, p := range []string{s, "/" + s, s + "/", s + "/a", "/a" + s, "/" + s + "a", "/a" + s + "b", "/a/" + s, "/" + s + "/a", "/a" + s + "/b", "/a/b" + s, s + "/a/b"} {
			checks(t, p, api.ErrPathForm)
		}
		// The form comes first, wherever it is spoiled.
		for _, p := range []string{strings.Repeat("/a", 7) + s, strings.Repeat("/a", 6) + "/" + s, "/" + strings.Repeat("x", 60) + s, "/" + s + strings.Repeat("/a", 40)} {
			checks(t, p, api.ErrPathForm)
		}
	}
}

func TestQ1Limits(t *testing.T) {
	for n := 1; n <= 200; n++ {
		want := api.OK
		if n > 59 {
			want = api.ErrPathLong
		}
		checks(t, "/"+strings.Repeat("x", n), want)
		checks(t, "/"+strings.Repeat("x", n)+"/", api.ErrPathForm)
		checks(t, strings.Repeat("x", n), api.ErrPathForm)
		checks(t, strings.Repeat("/", n)+"/", api.ErrPathForm)
		want = api.OK
		if n > 6 {
			want = api.ErrPathLong
		}
		checks(t, strings.Repeat("/a", n), want)
		checks(t, strings.Repeat("/a", n)+"/", api.ErrPathForm)
		checks(t, strings.Repeat("/a", n)+"/..", api.ErrPathForm)
		checks(t, strings.Repeat("/a", n)+"//a", api.ErrPathForm)
	}
	full := "/" + strings.Repeat("xxxxxxxxx/", 5)
	checks(t, full+"xxxxxxxxx", api.OK)
	checks(t, full+"xxxxxxxxxx", api.ErrPathLong)
	checks(t, full+"xxxxxxx/x", api.ErrPathLong)
	checks(t, full, api.ErrPathForm)
}

// manyTexts are texts of all kinds.
func manyTexts() []string {
	return slices.Concat(textsOf(14, "/", "a"), textsOf(8, "/", ".", "a"), textsOf(5, "/", "a", ".", " ", "ä", "\xff"), spoilers(), longs(), someTexts(20000), somePaths(2000))
}

func TestQ1AnyText(t *testing.T) {
	told := map[api.Errno]int{}
	for _, p := range manyTexts() {
		want := check(p)
		checks(t, p, want)
		told[want]++
	}
	for _, e := range []api.Errno{api.OK, api.ErrPathForm, api.ErrPathLong} {
		if told[e] < 100 {
			t.Errorf("only %d texts of the answer %d", told[e], e)
		}
	}
}

func TestQ2Edges(t *testing.T) {
	for _, c := range [][3]string{
		{"", "", ""}, {"a", "", "a"}, {"a b\xff", "", "a b\xff"}, {".", "", "."},
		{"/", "", ""}, {"//", "/", ""}, {"///", "//", ""}, {"/a", "/", "a"}, {"/a/", "/a", ""}, {"//a", "/", "a"},
		{"a/", "a", ""}, {"a/b", "a", "b"}, {"a/b/", "a/b", ""}, {"a//", "a/", ""}, {"/a/b/c", "/a/b", "c"},
		{"/ä/ö", "/ä", "ö"}, {"/ä", "/", "ä"}, {"\xff/\xfe", "\xff", "\xfe"}, {"\xc3/a", "\xc3", "a"}, {"/\xc0\xaf", "/", "\xc0\xaf"},
	} {
		if p, b := path.Parent(c[0]), path.Base(c[0]); p != c[1] || b != c[2] {
			t.Errorf("of %q: %q, %q, want %q, %q", c[0], p, b, c[1], c[2])
		}
	}
}

func TestQ2AnyText(t *testing.T) {
	for _, p := range manyTexts() {
		if got, want := path.Parent(p), parent(p); got != want {
			t.Errorf("Parent(%.80q): %.80q, want %.80q", p, got, want)
		}
		if got, want := path.Base(p), base(p); got != want {
			t.Errorf("Base(%.80q): %.80q, want %.80q", p, got, want)
		}
	}
}

func TestQ3Edges(t *testing.T) {
	for _, c := range [][3]string{
		{"/", "", "/"}, {"", "", "/"}, {"", "a", "/a"}, {"/", "/", "//"}, {"/a", "", "/a/"}, {"/a", "b", "/a/b"},
		{"/a/", "b", "/a//b"}, {"//", "a", "///a"}, {"a", "b", "a/b"}, {"/", "b/c", "/b/c"}, {"/a", "/b", "/a//b"}, {"\xff", "\xfe", "\xff/\xfe"},
	} {
		if got := path.Kid(c[0], c[1]); got != c[2] {
			t.Errorf("Kid(%q, %q): %q, want %q", c[0], c[1], got, c[2])
		}
	}
	for _, c := range []struct {
		p, q string
		is   bool
	}{
		{"", "", false}, {"", "/", false}, {"/", "", false}, {"/a", "", true}, {"//", "", true}, {"a", "", false},
		{"/a", "/", true}, {"a", "/", false}, {"//", "/", true}, {"/a/b", "/", true}, {"/", "/a", false},
		{"/a", "/a", false}, {"/a/", "/a", false}, {"/a/b", "/a", true}, {"/a//", "/a", true}, {"/ab", "/a", false}, {"/ab/c", "/a", false},
		{"/a/b/c", "/a", true}, {"/a/b/c", "/a/b", true}, {"/a/b", "/a/b/c", false}, {"/b/a/c", "/a", false}, {"/a/b", "/b", false},
		{"/a/b", "/a/", false}, {"/a//b", "/a/", true}, {"/A/b", "/a", false}, {"a/b", "a", true}, {"\xff/\xfe", "\xff", true},
	} {
		if got := path.Under(c.p, c.q); got != c.is {
			t.Errorf("Under(%q, %q): %t", c.p, c.q, got)
		}
	}
}

func TestQ3AnyTexts(t *testing.T) {
	pair := func(p, q string) {
		if got, want := path.Kid(p, q), kid(p, q); got != want {
			t.Errorf("Kid(%.80q, %.80q): %.80q, want %.80q", p, q, got, want)
		}
		if got, want := path.Under(p, q), under(p, q); got != want {
			t.Errorf("Under(%.80q, %.80q): %t", p, q, got)
		}
	}
	short := slices.Concat(textsOf(5, "/", "a", "b"), textsOf(2, "/", "ä", "\xff", "."))
	for _, p := range short {
		for _, q := range short {
			pair(p, q)
		}
	}
	for _, p := range append(someTexts(2000), longs()...) {
		for cut := range min(len(p), 70) {
			pair(p, p[:cut])
			pair(p[:cut], p)
		}
		pair(p, p)
		pair(p+"/", p)
		pair(p+"/a", p)
		pair("/"+p, p)
	}
}

func TestQ4(t *testing.T) {
	for n, want := range map[int]string{
		0: "0000000000", 1: "0000000001", 7: "0000000007", 10: "0000000010", 999999999: "0999999999",
		1000000000: "1000000000", 9999999999: "9999999999", 10000000000: "0000000000", 10000000001: "0000000001",
		12345678901: "2345678901", 99999999999: "9999999999", 100000000000: "0000000000", math.MaxInt: "6854775807",
		-1: "0000000000", -7: "0000000000", -9999999999: "0000000000", -12345678901: "0000000000", math.MinInt: "0000000000",
	} {
		for _, p := range []string{"", "/", "/q-", "/a/b", "a b", "\xff", "7", "-", strings.Repeat("/x", 5000)} {
			if got := path.Numbered(p, n); got != p+want {
				t.Errorf("Numbered(%.80q, %d): %.80q", p, n, got)
			}
		}
	}
	for k := range 64 {
		for d := -3; d <= 3; d++ {
			for _, n := range []int{1<<k + d, -(1<<k + d), 3<<k + d, k*1000000007 + d} {
				if got, want := path.Numbered("/q", n), numbered("/q", n); got != want {
					t.Errorf("Numbered(/q, %d): %q, want %q", n, got, want)
				}
			}
		}
	}
}

// followed holds what follows of one path but the root's.
func followed(t *testing.T, p string) {
	t.Helper()
	up, name := path.Parent(p), path.Base(p)
	if path.Check(up) != api.OK || !isName(name) || path.Kid(up, name) != p {
		t.Errorf("%q is %q and %q", p, up, name)
	}
	above := p
	for range 6 {
		above = path.Parent(above)
		if !path.Under(p, above) || path.Under(above, p) {
			t.Errorf("%q under %q: %t; the other way: %t", p, above, path.Under(p, above), path.Under(above, p))
		}
		if above == "/" {
			return
		}
	}
	t.Errorf("%q: the last one above it is %q", p, above)
}

func TestQ5(t *testing.T) {
	paths := 0
	for _, p := range manyTexts() {
		if path.Check(p) != api.OK {
			continue
		}
		if path.Under(p, p) {
			t.Errorf("%q lies under itself", p)
		}
		if p != "/" {
			paths++
			followed(t, p)
		}
	}
	if paths < 2000 {
		t.Errorf("only %d paths", paths)
	}
}

// TestKidsAreChecked: of a path and a name Kid is what Parent and Base take apart, and it is a path unless it is too long.
func TestKidsAreChecked(t *testing.T) {
	names := []string{"a", "b-", "...", "C_0", strings.Repeat("x", 20)}
	for _, p := range append(somePaths(1000), "/") {
		for _, name := range names {
			k := path.Kid(p, name)
			if path.Parent(k) != p || path.Base(k) != name || !path.Under(k, p) {
				t.Errorf("%q and %q: %q", p, name, k)
			}
			checks(t, k, check(k))
			if path.Check(k) == api.ErrPathForm {
				t.Errorf("%q is none", k)
			}
		}
	}
}
