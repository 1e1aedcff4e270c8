package acl_test

import (
	"fmt"
	"math"
	"math/rand"
	"slices"
	"strings"
	"testing"

	"arboretum/acl"
	"arboretum/api"
)

// IDs that are right, of several people.
const (
	ann = "ann:7c48e6cd280a3c7a"
	bob = "bob:c8ef162dfa368bba"
	cat = "cat:0123456789abcdef"
)

func allBytes() string {
	l := make([]byte, 256)
	for i := range l {
		l[i] = byte(i)
	}
	return string(l)
}

// spoilers are runes of several bytes, and what is none: those that end in a byte of a name or a digit, and letters and digits of other kinds.
func spoilers() []string {
	l := []string{"ä", "\u017f", "\u212a", "\u0663", "\uff10", "\uff41", "€", "\xc3", "\xe2\x82", "\xc1\xa1", "\xed\xa0\x80", "\x00"}
	for _, r := range nameBytes + ":" {
		l = append(l, string(r+0x100), string(r+0x1f00), string(r+0x10000))
	}
	return l
}

// numbers are those around the ones that a sum of permissions may be, and those at the edges of their kind.
func numbers() []int {
	l := []int{math.MinInt, math.MinInt + 1, math.MaxInt, math.MaxInt - 1}
	for n := -70; n <= 140; n++ {
		l = append(l, n)
	}
	for k := range 63 {
		for d := -1; d <= 1; d++ {
			l = append(l, 1<<k+d, -(1<<k)+d, 31+1<<k+d)
		}
	}
	return l
}

// texts are IDs and what is none, most of them such as differ from an ID in little.
func texts() []string {
	l := []string{"", "world", ann, bob, cat, "world:0123456789abcdef", "ann", "ann:", ":7c48e6cd280a3c7a", "7c48e6cd280a3c7a"}
	l = append(l, "World", "WORLD", "worl", "orld", "worldx", "world ", " world", "world\x00", "world:", ":world", "wor:ld", "worldworld", "a:world")
	l = append(l, strings.ToUpper(ann), "Ann"+ann[3:], ann[:4]+strings.ToUpper(ann[4:]), ann+"\n", " "+ann, ann+ann, "x:"+ann, ann+":", "ann:"+ann[3:], ann+ann[3:])
	for _, id := range []string{"world", ann} {
		for i := range len(id) {
			l = append(l, id[:i]+id[i+1:], id[:i]+id[i:i+1]+id[i:], id[:i]+":"+id[i:], id[:i]+":"+id[i+1:])
		}
	}
	return l
}

func rows(perms int, ids ...string) []api.Acl {
	l := []api.Acl{}
	for _, id := range ids {
		l = append(l, api.Acl{Perms: perms, ID: id})
	}
	return l
}

func rights(t *testing.T, l []api.Acl, want bool) {
	t.Helper()
	if got := acl.Right(l); got != want {
		t.Errorf("Right(%.200q): %t", fmt.Sprint(l), got)
	}
}

// isRight holds whether a text is an ID in a row.
func isRight(t *testing.T, id string, want bool) {
	t.Helper()
	rights(t, rows(1, id), want)
}

func mays(t *testing.T, l []api.Acl, perms int, ids []string, want bool) {
	t.Helper()
	if got := acl.May(l, perms, ids...); got != want {
		t.Errorf("May(%.200q, %d, %.80q): %t", fmt.Sprint(l), perms, ids, got)
	}
}

func digests(t *testing.T, name, secret, want string) {
	t.Helper()
	if got, e := acl.Digest(name, secret); got != want || e != api.OK {
		t.Errorf("Digest(%q, %.80q): %q, %d, want %q", name, secret, got, e, want)
	}
}

func refused(t *testing.T, name string) {
	t.Helper()
	for _, secret := range []string{"", "x", name} {
		if got, e := acl.Digest(name, secret); got != "" || e != api.ErrAclForm {
			t.Errorf("Digest(%.80q, %.80q): %q, %d", name, secret, got, e)
		}
	}
}

func TestExamples(t *testing.T) {
	l := []api.Acl{{Perms: 1, ID: "world"}, {Perms: 6, ID: ann}}
	for _, c := range []struct {
		l     []api.Acl
		perms int
		ids   []string
		want  bool
	}{{l, 1, nil, true}, {l, 3, nil, false}, {l, 3, []string{ann}, true}, {l, 0, nil, true}, {nil, 0, nil, true}, {l, 32, nil, false}} {
		mays(t, c.l, c.perms, c.ids, c.want)
	}
	digests(t, "ann", "x", ann)
	refused(t, "")
	refused(t, "Ann")
	rights(t, nil, false)
	isRight(t, "bob", false)
	rights(t, rows(0, "world"), false)
	rights(t, rows(31, "world"), true)
}

func TestU1Rows(t *testing.T) {
	rights(t, []api.Acl{}, false)
	rights(t, []api.Acl{{}}, false)
	ids := []string{"world", ann, bob, cat, ann, "world"}
	for n := 1; n <= len(ids); n++ {
		l := rows(31, ids[:n]...)
		rights(t, l, n <= 4)
		for i := range n {
			l[i].Perms = 0
			rights(t, l, false)
			l[i].Perms = 32
			rights(t, l, false)
			l[i].Perms = 1
			rights(t, l, n <= 4)
			l[i].ID = "ann"
			rights(t, l, false)
			l[i].ID = ids[i]
		}
	}
	for _, n := range []int{4, 5, 8, 256, 1 << 16} {
		rights(t, slices.Repeat(rows(1, ann), n), n <= 4)
	}
}

func TestU1Perms(t *testing.T) {
	for _, n := range numbers() {
		want := n >= 1 && n <= 31
		rights(t, rows(n, "world"), want)
		rights(t, rows(n, ann), want)
		rights(t, append(rows(31, "world", bob), rows(n, ann)...), want)
		rights(t, append(rows(n, "world"), rows(31, ann, bob, cat)...), want)
	}
}

func TestU1Names(t *testing.T) {
	for n := range 40 {
		for _, c := range []string{"a", "z", "0", "9", "m"} {
			isRight(t, strings.Repeat(c, n)+":0123456789abcdef", n >= 1 && n <= 12)
		}
	}
	for b := range 256 {
		c := string([]byte{byte(b)})
		want := strings.Contains(nameBytes, c)
		for _, name := range []string{c, c + "a", "a" + c, "a" + c + "b", "a0123456789" + c, c + "a0123456789"} {
			isRight(t, name+":0123456789abcdef", want)
		}
	}
	for _, s := range spoilers() {
		for _, name := range []string{s, s + "a", "a" + s, "a" + s + "b"} {
			isRight(t, name+":0123456789abcdef", isName(name))
		}
	}
}

func TestU1Digits(t *testing.T) {
	for n := range 40 {
		for _, c := range []string{"0", "9", "a", "f", "3"} {
			isRight(t, "ann:"+strings.Repeat(c, n), n == 16)
			isRight(t, "ann"+strings.Repeat(c, n), false)
		}
	}
	for b := range 256 {
		c := string([]byte{byte(b)})
		for i := range 16 {
			isRight(t, ann[:4+i]+c+ann[5+i:], strings.Contains(digitBytes, c))
			isRight(t, ann[:4+i]+c+ann[4+i:], false)
		}
		isRight(t, "ann"+c+"7c48e6cd280a3c7a", c == ":")
	}
	for _, s := range spoilers() {
		for at := 4; at+len(s) <= len(ann); at++ {
			isRight(t, ann[:at]+s+ann[at+len(s):], madeOf(s, digitBytes))
		}
	}
}

func TestU1IDs(t *testing.T) {
	for _, id := range []string{"world", ann, bob, cat, "world:0123456789abcdef", "0:0000000000000000", "zzzzzzzzzzzz:ffffffffffffffff"} {
		isRight(t, id, true)
	}
	told := map[bool]int{}
	for _, id := range texts() {
		want := isID(id)
		isRight(t, id, want)
		told[want]++
	}
	if told[true] < 5 || told[false] < 50 {
		t.Errorf("only %v of each answer", told)
	}
	for _, id := range []string{strings.Repeat("a", 1<<20) + ":0123456789abcdef", "a:" + strings.Repeat("0", 1<<20), strings.Repeat(":", 1<<20), strings.Repeat("world", 1<<18)} {
		isRight(t, id, false)
	}
}

func TestU2Perms(t *testing.T) {
	for _, n := range numbers() {
		mays(t, rows(31, "world"), n, nil, n >= 0 && n <= 31)
		mays(t, rows(31, ann), n, []string{ann}, n >= 0 && n <= 31)
		mays(t, rows(-1, "world"), n, nil, n >= 0 && n <= 31)
		mays(t, rows(31, ann), n, nil, n == 0)
		mays(t, nil, n, []string{ann, "world"}, n == 0)
		mays(t, []api.Acl{}, n, nil, n == 0)
		// What a row gives are its bits, whatever other ones it has.
		for perms := range 32 {
			mays(t, rows(n, "world"), perms, nil, perms&n == perms)
			mays(t, rows(n, ann), perms, []string{bob, ann}, perms&n == perms)
			mays(t, rows(n, ann), perms, []string{bob}, perms == 0)
		}
	}
}

// TestU2TwoRows: all pairs of rows of permissions, to all kinds of people.
func TestU2TwoRows(t *testing.T) {
	people := [][]string{{}, {ann}, {bob}, {ann, bob}, {bob, ann}, {"world"}, {cat, ""}}
	for _, to := range [][]string{{"world", ann}, {ann, bob}, {ann, ann}} {
		for first := range 32 {
			for second := range 32 {
				l := []api.Acl{{Perms: first, ID: to[0]}, {Perms: second, ID: to[1]}}
				for _, ids := range people {
					for perms := range 32 {
						mays(t, l, perms, ids, may(l, perms, ids))
					}
				}
			}
		}
	}
}

// TestU2SameText: of two texts that are no other's a row gives to the one nothing that it gives to the other.
func TestU2SameText(t *testing.T) {
	all := texts()
	for _, id := range all {
		mays(t, rows(31, id), 31, nil, id == "world")
		for _, of := range all {
			mays(t, rows(31, id), 31, []string{of}, id == "world" || id == of)
			mays(t, rows(31, id), 16, []string{of, "x"}, id == "world" || id == of)
		}
	}
}

func TestU2ManyRows(t *testing.T) {
	// Beyond the rows that an ACL may have each one gives all the same.
	for n := range 12 {
		l := append(rows(1, slices.Repeat([]string{cat}, n)...), api.Acl{Perms: 2, ID: ann})
		mays(t, l, 2, []string{ann}, true)
		mays(t, l, 3, []string{ann, cat}, n > 0)
		mays(t, l, 3, []string{ann}, false)
		mays(t, l, 4, []string{ann, cat}, false)
		mays(t, rows(2, ann), 2, append(slices.Repeat([]string{bob}, n), ann), true)
	}
	l := []api.Acl{{Perms: 1, ID: ann}, {Perms: 2, ID: bob}, {Perms: 4, ID: cat}, {Perms: 8, ID: "world"}, {Perms: 16, ID: "x"}}
	for perms := range 32 {
		mays(t, l, perms, []string{"x", cat, bob, ann}, true)
		mays(t, l, perms, nil, perms == 0 || perms == 8)
		mays(t, l, perms, []string{bob}, perms&^10 == 0)
	}
	mays(t, slices.Repeat(rows(1, ann), 1<<16), 1, []string{bob}, false)
}

// someRows are rows of any kind, more often than not such as give something.
func someRows(x *rand.Rand, most int) []api.Acl {
	l := make([]api.Acl, x.Intn(most+1))
	for i := range l {
		l[i].Perms = x.Intn(32) & x.Intn(32)
		if x.Intn(8) == 0 {
			l[i].Perms = x.Intn(200) - 100
		}
	}
	for i, id := range someIDs(x, len(l)) {
		l[i].ID = id
	}
	return l
}

func someIDs(x *rand.Rand, n int) []string {
	l, from := make([]string, n), []string{ann, bob, cat, "world", "", "ann", "World"}
	for i := range l {
		l[i] = from[x.Intn(len(from))]
	}
	return l
}

func TestU2AnyRows(t *testing.T) {
	x := rand.New(rand.NewSource(7))
	told := map[bool]int{}
	for range 100000 {
		l, ids, perms := someRows(x, 10), someIDs(x, x.Intn(4)), x.Intn(40)-4
		want := may(l, perms, ids)
		mays(t, l, perms, ids, want)
		rights(t, l, right(l))
		told[want]++
	}
	if told[true] < 5000 || told[false] < 5000 {
		t.Errorf("only %v of each answer", told)
	}
}

func TestU3Names(t *testing.T) {
	for n := range 40 {
		for _, c := range []string{"a", "z", "0", "9"} {
			name := strings.Repeat(c, n)
			if n >= 1 && n <= 12 {
				digests(t, name, "x", digest(name, "x"))
			} else {
				refused(t, name)
			}
		}
	}
	for b := range 256 {
		c := string([]byte{byte(b)})
		for _, name := range []string{c, c + "a", "a" + c, "a" + c + "b", "a0123456789" + c, c + "a0123456789"} {
			if strings.Contains(nameBytes, c) {
				digests(t, name, "x", digest(name, "x"))
			} else {
				refused(t, name)
			}
		}
	}
	for _, s := range spoilers() {
		refused(t, s)
		refused(t, "a"+s)
		refused(t, s+"a")
	}
	for _, name := range []string{"", ":", "a:", ":a", "a:b", ann, "ann ", strings.Repeat("a", 1<<20)} {
		refused(t, name)
	}
	digests(t, "world", "", "world:e277b67d7e4fd38b")
}

func TestU3Digits(t *testing.T) {
	for _, c := range [][3]string{
		{"ann", "x", ann}, {"bob", "secret", bob}, {"ann", "", "ann:96bc7383b55a10e6"}, {"0", ":", "0:4e5cec181d4406af"},
		{"abcdefghijkl", "\x00\xff", "abcdefghijkl:9238c11c453955c8"}, {"z9", allBytes(), "z9:2dd1a32159c021b2"},
		// Noughts ahead are told.
		{"a", "", "a:089c0c07b5453942"}, {"a", "2300", "a:05c87e9d63416901"}, {"a", "14300", "a:00ef19ee777d46dc"}, {"a", "195820", "a:0006042da86ba61f"},
	} {
		digests(t, c[0], c[1], c[2])
	}
}

func TestU3AnySecret(t *testing.T) {
	x := rand.New(rand.NewSource(8))
	for _, name := range []string{"a", "ann", "world", "0", "abcdefghijkl", "012345678901"} {
		for range 1500 {
			secret := make([]byte, x.Intn(40))
			x.Read(secret)
			digests(t, name, string(secret), digest(name, string(secret)))
		}
		for b := range 256 {
			secret := string([]byte{byte(b)})
			digests(t, name, secret, digest(name, secret))
		}
		for _, secret := range []string{":", name, "a:b", "é", "\x00", "\x00\x00", strings.Repeat("s", 4096), strings.Repeat("\xff", 1<<16)} {
			digests(t, name, secret, digest(name, secret))
		}
	}
}

// TestU3IsID: what Digest gives may stand in a row, and is its own people's alone.
func TestU3IsID(t *testing.T) {
	had := map[string]bool{}
	for _, name := range []string{"a", "ann", "world", "0", "abcdefghijkl"} {
		for _, secret := range []string{"", "x", "y", "X", " x", "x ", "xx", name, allBytes()} {
			id, e := acl.Digest(name, secret)
			if e != api.OK || had[id] {
				t.Errorf("Digest(%q, %q): %q, %d", name, secret, id, e)
			}
			had[id] = true
			isRight(t, id, true)
			mays(t, rows(31, id), 31, []string{id}, true)
			mays(t, rows(31, id), 1, []string{cat}, false)
		}
	}
}

func shuffled[T any](x *rand.Rand, l []T) []T {
	l = slices.Clone(l)
	x.Shuffle(len(l), func(i, k int) { l[i], l[k] = l[k], l[i] })
	return l
}

func TestU4MoreIsAllowed(t *testing.T) {
	x := rand.New(rand.NewSource(9))
	allowed := 0
	for range 50000 {
		l, ids, perms := someRows(x, 6), someIDs(x, x.Intn(4)), x.Intn(32)
		if !acl.May(l, perms, ids...) {
			continue
		}
		allowed++
		more := shuffled(x, append(slices.Clone(l), someRows(x, 4)...))
		with := shuffled(x, append(slices.Clone(ids), someIDs(x, 3)...))
		mays(t, more, perms, ids, true)
		mays(t, l, perms, with, true)
		mays(t, more, perms&x.Int(), with, true)
	}
	if allowed < 5000 {
		t.Errorf("only %d were allowed", allowed)
	}
}

func TestU4SumAndOrder(t *testing.T) {
	x := rand.New(rand.NewSource(10))
	for range 5000 {
		l, ids := someRows(x, 6), someIDs(x, x.Intn(4))
		var allowed [32]bool
		for perms := range allowed {
			allowed[perms] = acl.May(l, perms, ids...)
			mays(t, shuffled(x, l), perms, shuffled(x, ids), allowed[perms])
		}
		for p := range allowed {
			for q := range allowed {
				mays(t, l, p|q, ids, allowed[p] && allowed[q])
			}
		}
	}
}

// TestR3NothingIsWritten: neither what is handed in nor what stands behind its length.
func TestR3NothingIsWritten(t *testing.T) {
	l := []api.Acl{{Perms: 31, ID: ann}, {Perms: 31, ID: "bob"}, {Perms: 7, ID: "world"}, {Perms: 16, ID: cat}, {Perms: 5, ID: bob}}
	ids := []string{bob, ann, "world", "x", cat}
	rowsWere, idsWere := slices.Clone(l), slices.Clone(ids)
	for n := range len(l) + 1 {
		acl.Right(l[:n])
		for k := range len(ids) + 1 {
			for perms := -1; perms <= 32; perms++ {
				acl.May(l[:n], perms, ids[:k]...)
			}
		}
	}
	if !slices.Equal(l, rowsWere) || !slices.Equal(ids, idsWere) {
		t.Errorf("%v, %v", l, ids)
	}
}

// TestR4NothingIsKept: what a call answers is the same, whatever calls were ahead of it.
func TestR4NothingIsKept(t *testing.T) {
	for range 3 {
		mays(t, rows(31, "world"), 31, nil, true)
		mays(t, rows(31, ann), 1, nil, false)
		digests(t, "ann", "x", ann)
		refused(t, "Ann")
		digests(t, "bob", "secret", bob)
		mays(t, rows(31, ann), 1, []string{ann}, true)
		rights(t, rows(0, "world"), false)
		rights(t, rows(31, ann), true)
	}
}
