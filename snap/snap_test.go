package snap_test

import (
	"fmt"
	"math"
	"math/rand"
	"slices"
	"strconv"
	"strings"
	"testing"

	"arboretum/api"
	"arboretum/snap"
	"arboretum/tree"
)

// ofNew is the chapter's first example.
const ofNew = "\x04TREE\x00\x01\x01/\x00\x01\x3e\x05world\x00\x00\x00\x00\x00\x00\x00\x00"

var some = []api.Acl{{Perms: 1, ID: "world"}, {Perms: 6, ID: "ann:7c48e6cd280a3c7a"}}

// full is a Stat of which no two numbers are the same.
var full = api.Stat{Czxid: 1<<32 + 1, Mzxid: 1<<33 + 2, Pzxid: 1<<34 + 3, Version: 4, Cversion: 50, Aversion: 600, Owner: 7000}

func numbers() []int {
	return []int{math.MinInt, -1 << 32, -65, -64, -1, 0, 1, 63, 64, 8191, 8192, 1<<32 + 7, math.MaxInt}
}

// trees are such as calls bring about, right and whole or not.
func trees() []*tree.Tree {
	l := []*tree.Tree{tree.New(), grown(), many(256, 256), strays()}
	for _, n := range numbers() {
		x := tree.New()
		x.LayZxid(n)
		x.Lay("/", strings.Repeat("d", max(0, n%300)), []api.Acl{{Perms: n, ID: "x"}}, api.Stat{Czxid: n, Mzxid: n + 1, Pzxid: n + 2, Version: n + 3, Cversion: n + 4, Aversion: n + 5, Owner: n + 6})
		x.LaySession(n, n+1, "s")
		x.LaySession(n+9, n+2, "\x00\xff")
		l = append(l, x)
	}
	return append(l, many(257, 0), many(1, 257), many(1000, 1000))
}

// grown has what a tree may have: kids, rows, none of them, sessions.
func grown() *tree.Tree {
	x := tree.New()
	for i, p := range []string{"/a", "/a/b", "/a/b/c", "/a-x", "/a.b", "/ab", "/B", "/a/b/c/d", "/a/b/c/d/e", "/a/b/c/d/e/f", "/" + strings.Repeat("x", 59)} {
		x.Apply(api.Entry{Zxid: 1<<32 + i, Txn: api.Txn{Kind: api.TxnCreate, Path: p, Data: strings.Repeat(p, i), Acl: some[i%2:], Owner: i % 3, Number: i}})
	}
	x.Lay("/n", "", nil, api.Stat{})
	x.Lay("/m", "\x00\xff/TREE", slices.Repeat(some, 3), full)
	for _, id := range []int{300, 2, 1, 1 << 40} {
		x.LaySession(id, id%57, strings.Repeat("p", id%5))
	}
	return x
}

// many has so many nodes, the root with them, and sessions.
func many(nodes, sessions int) *tree.Tree {
	x := tree.New()
	for i := range nodes - 1 {
		x.Lay("/n"+strconv.Itoa(i), strconv.Itoa(i), some[:i%3], api.Stat{Version: i})
	}
	for i := range sessions {
		x.LaySession(i+1, i, "s")
	}
	return x
}

// strays has nodes that stand without their Parent.
func strays() *tree.Tree {
	x := grown()
	for _, p := range []string{"/p/q", "/p/q/r/s", "/z/a/b"} {
		x.Lay(p, p, some, full)
	}
	return x
}

// brief is what is told of a text in an error.
func brief(s string) string { return fmt.Sprintf("%d bytes %.120q", len(s), s) }

// decodes holds Decode and Restore of a text against the model.
func decodes(t *testing.T, s string) {
	t.Helper()
	want, right := parsed(s)
	x, e := snap.Decode(s)
	takes(t, "Decode of "+brief(s), x, e, want, right && want.whole())
	x, e = snap.Restore(s, nil)
	takes(t, "Restore of "+brief(s), x, e, want, right)
}

func takes(t *testing.T, what string, x *tree.Tree, e api.Errno, want shot, good bool) {
	t.Helper()
	switch {
	case !good:
		if x != nil || e != api.ErrSnapForm {
			t.Errorf("%s: %v, %d, want ErrSnapForm", what, x, e)
		}
	case x == nil || e != api.OK:
		t.Errorf("%s: %v, %d", what, x, e)
	case !x.Same(want.tree()):
		t.Errorf("%s: %s", what, brief(shotOf(x).text()))
	case snap.Encode(x) != want.text():
		t.Errorf("%s: Encode of it: %s", what, brief(snap.Encode(x)))
	}
}

// refused, fragment, sound: what becomes of a shot, told ahead, so that the model's own word is held against it, too.
const (
	refused  = 0 // it is not right
	fragment = 1 // it is right, but not whole
	sound    = 2
)

func (s shot) becomes(t *testing.T, what string, want int) {
	t.Helper()
	got := refused
	if _, right := parsed(s.text()); right && s.whole() {
		got = sound
	} else if right {
		got = fragment
	}
	if got != want {
		t.Errorf("%s: the model tells %d, want %d", what, got, want)
	}
	decodes(t, s.text())
}

// changed is a shot of its own, changed.
func (s shot) changed(change func(s *shot)) shot {
	s.nodes, s.holders = slices.Clone(s.nodes), slices.Clone(s.holders)
	for i := range s.nodes {
		s.nodes[i].rows = slices.Clone(s.nodes[i].rows)
	}
	change(&s)
	return s
}

// small is one that has something of everything.
func small() shot {
	return shot{
		zxid:    1<<32 + 9,
		nodes:   []leaf{{"/", "root", some, full}, {"/a", "", nil, api.Stat{Pzxid: 3}}, {"/a/b", "\xff", some[1:], full}},
		holders: []holder{{1, 10, "p"}, {300, -4, ""}},
	}
}

func TestN1Examples(t *testing.T) {
	if s := snap.Encode(tree.New()); s != ofNew {
		t.Errorf("of a new one: %q", s)
	}
	if s := snap.Encode(nil); s != "" {
		t.Errorf("of nil: %q", s)
	}
	x := tree.New()
	x.Apply(api.Entry{Zxid: 5, Txn: api.Txn{Kind: api.TxnCreate, Path: "/a", Data: "d", Number: 1, Owner: 2}})
	x.Apply(api.Entry{Zxid: 6, Txn: api.Txn{Kind: api.TxnOpen, Owner: 2, Number: 20, Data: "s"}})
	want := "\x04TREE\x0c\x02" + "\x01/\x00\x01\x3e\x05world\x00\x00\x0a\x00\x02\x00\x00" + "\x02/a\x01d\x00\x0a\x0a\x0a\x00\x00\x00\x04" + "\x01\x04\x28\x01s"
	if s := snap.Encode(x); s != want {
		t.Errorf("%q", s)
	}
}

func TestN1Encode(t *testing.T) {
	for _, x := range trees() {
		was := x.Clone()
		s := snap.Encode(x)
		if want := shotOf(was).text(); s != want {
			t.Errorf("Encode: %s, want %s", brief(s), brief(want))
		}
		if !x.Same(was) || snap.Encode(x) != s {
			t.Errorf("Encode has changed the tree of %s", brief(s))
		}
	}
}

func TestN1LongTexts(t *testing.T) {
	for _, n := range []int{127, 128, 4096, 4097, 1 << 17} {
		x := tree.New()
		long := strings.Repeat("\x80", n)
		x.Lay("/", long, []api.Acl{{ID: long}}, api.Stat{})
		x.LaySession(1, 2, long)
		if s := snap.Encode(x); s != shotOf(x).text() {
			t.Errorf("Encode: %s", brief(s))
		}
		decodes(t, snap.Encode(x))
	}
}

func TestN2OfTrees(t *testing.T) {
	for _, x := range trees() {
		decodes(t, snap.Encode(x))
	}
	for _, x := range []*tree.Tree{tree.New(), grown(), many(256, 256)} {
		if y, e := snap.Decode(snap.Encode(x)); e != api.OK || !y.Same(x) {
			t.Errorf("N5: %v, %d", y, e)
		}
	}
	small().becomes(t, "a small one", sound)
	shotOf(grown()).becomes(t, "a grown one", sound)
	shotOf(strays()).becomes(t, "strays", fragment)
}

// TestN2Counts: 256 of everything, and one more.
func TestN2Counts(t *testing.T) {
	shotOf(many(256, 256)).becomes(t, "256", sound)
	shotOf(many(257, 0)).becomes(t, "257 nodes", refused)
	shotOf(many(1, 257)).becomes(t, "257 sessions", refused)
	for n, want := range map[int]int{0: sound, 1: sound, 5: sound, 255: sound, 256: sound, 257: refused, 1000: refused} {
		for i := range small().nodes {
			small().changed(func(s *shot) { s.nodes[i].rows = slices.Repeat(some[:1], n) }).becomes(t, strconv.Itoa(n)+" rows", want)
		}
	}
	// The limits are each list's own: more than 256 rows in all, more than 65536 bytes in all.
	small().changed(func(s *shot) {
		for i := range s.nodes {
			s.nodes[i].rows, s.nodes[i].data = slices.Repeat([]api.Acl{{ID: strings.Repeat("i", 4096)}}, 256), strings.Repeat("d", 4096)
		}
	}).becomes(t, "much", sound)
	small().changed(func(s *shot) { s.holders = nil }).becomes(t, "no sessions", sound)
	small().changed(func(s *shot) { s.nodes = nil }).becomes(t, "no nodes", refused)
	small().changed(func(s *shot) { s.nodes, s.holders = nil, nil }).becomes(t, "nothing", refused)
}

func TestN2Texts(t *testing.T) {
	for n, want := range map[int]int{0: sound, 101: sound, 4095: sound, 4096: sound, 4097: refused, 1 << 16: refused} {
		long := strings.Repeat("x", n)
		what := strconv.Itoa(n) + " bytes of "
		for i := range small().nodes {
			small().changed(func(s *shot) { s.nodes[i].data = long }).becomes(t, what+"data", want)
			small().changed(func(s *shot) { s.nodes[i].rows = []api.Acl{some[0], {ID: long}} }).becomes(t, what+"an ID", want)
		}
		for i := range small().holders {
			small().changed(func(s *shot) { s.holders[i].secret = long }).becomes(t, what+"a password", want)
		}
	}
}

// wrong are texts that are no paths.
func wrong() []string {
	return []string{"", "a", "a/b", "//", "/a/", "//a", "/a//b", "/a b", "/.", "/..", "/a/.", "/a/..", "/a\x00", "/\xff", "/ä", "/a/b/c/d/e/f/g", "/" + strings.Repeat("x", 60), "/a/" + strings.Repeat("x", 58), strings.Repeat("/a", 1000)}
}

func TestN2Paths(t *testing.T) {
	one := func(p string) shot {
		return small().changed(func(s *shot) { s.nodes[0].path = p; s.nodes = s.nodes[:1] })
	}
	two := func(p string) shot {
		return small().changed(func(s *shot) { s.nodes[1].path = p; s.nodes = s.nodes[:2] })
	}
	three := func(p string) shot { return small().changed(func(s *shot) { s.nodes[2].path = p }) }
	one("/").becomes(t, "the root", sound)
	for _, p := range append(wrong(), "/a", "/_", "/-", "/a/b") {
		one(p).becomes(t, "no root but "+p, refused)
		small().changed(func(s *shot) { s.nodes[0].path = p }).becomes(t, "first "+p, refused)
		small().changed(func(s *shot) { s.nodes = s.nodes[1:] }).becomes(t, "without the root", refused)
	}
	for _, p := range append(wrong(), "/") {
		two(p).becomes(t, "second "+p, refused)
		three(p).becomes(t, "last "+p, refused)
	}
	for _, p := range []string{"/a", "/Z", "/-", "/z.-_0", "/" + strings.Repeat("x", 59)} {
		two(p).becomes(t, "second "+p, sound)
	}
	for _, p := range []string{"/a/b/c/d/e/f", "/b/c", "/ab/c", "/a/b/c", "/a-x/y", "/p/" + strings.Repeat("x", 57)} {
		two(p).becomes(t, "second "+p, fragment)
	}
	for p, want := range map[string]int{"/a": refused, "/B": refused, "/Z/x": refused, "/A": refused, "/b": sound, "/ab": sound, "/a-": sound, "/a.b": sound, "/a/A": sound, "/a/b/c": fragment, "/aa/b": fragment, "/b/a": fragment} {
		three(p).becomes(t, "behind /a "+p, want)
	}
}

// TestN2Parents: any node but the root may be missing in what is right, none in what is whole but one without kids.
func TestN2Parents(t *testing.T) {
	all := shotOf(grown())
	for i, n := range all.nodes {
		kids := slices.ContainsFunc(all.nodes, func(m leaf) bool { return strings.HasPrefix(m.path, n.path+"/") })
		want := map[bool]int{false: sound, true: fragment}[kids]
		if n.path == "/" {
			want = refused
		}
		all.changed(func(s *shot) { s.nodes = slices.Delete(s.nodes, i, i+1) }).becomes(t, "without "+n.path, want)
	}
	small().changed(func(s *shot) {
		s.nodes = append(s.nodes, leaf{path: "/b"}, leaf{path: "/c/d"}, leaf{path: "/e/f"})
	}).becomes(t, "two strays", fragment)
	small().changed(func(s *shot) {
		s.nodes = append(s.nodes, leaf{path: "/b/c"}, leaf{path: "/b/c/d"}, leaf{path: "/b/c/d/e"})
	}).becomes(t, "kids of a stray", fragment)
}

func TestN2Sessions(t *testing.T) {
	for _, ids := range [][]int{{1}, {1, 2}, {7, math.MaxInt}, {1, 63, 64, 65, 8192, 1 << 40}} {
		of(ids).becomes(t, fmt.Sprint(ids), sound)
	}
	for _, ids := range [][]int{{0}, {-1}, {math.MinInt}, {0, 1}, {-1, 1}, {1, 0}, {1, 1}, {2, 1}, {1, 3, 2}, {1, 2, 2, 3}, {1, -2}, {1, math.MinInt}, {math.MaxInt, 1}} {
		of(ids).becomes(t, fmt.Sprint(ids), refused)
	}
	for _, n := range numbers() {
		small().changed(func(s *shot) { s.holders[1].timeout = n }).becomes(t, "a timeout", sound)
	}
}

func of(ids []int) shot {
	return small().changed(func(s *shot) {
		s.holders = nil
		for _, id := range ids {
			s.holders = append(s.holders, holder{id, 10, "s"})
		}
	})
}

// TestN2Numbers: any numbers are taken, and each in its own place.
func TestN2Numbers(t *testing.T) {
	for _, n := range numbers() {
		small().changed(func(s *shot) { s.zxid = n }).becomes(t, "a zxid", sound)
		for i := range small().nodes {
			small().changed(func(s *shot) { s.nodes[i].rows = []api.Acl{{Perms: n}} }).becomes(t, "Perms", sound)
			for k := range 7 {
				small().changed(func(s *shot) {
					x := &s.nodes[i].stat
					*[]*int{&x.Czxid, &x.Mzxid, &x.Pzxid, &x.Version, &x.Cversion, &x.Aversion, &x.Owner}[k] = n
				}).becomes(t, "a Stat", sound)
			}
		}
	}
}

// TestN2Bytes: each beginning, each byte changed in each way, one more or less anywhere.
func TestN2Bytes(t *testing.T) {
	for _, s := range []string{ofNew, small().text()} {
		for i := range len(s) {
			decodes(t, s[:i])
			decodes(t, s[:i]+s[i+1:])
			for b := range 256 {
				decodes(t, s[:i]+string([]byte{byte(b)})+s[i+1:])
				decodes(t, s[:i]+string([]byte{byte(b)})+s[i:])
			}
		}
		decodes(t, s+s)
		decodes(t, s+"\x00")
		decodes(t, "\x00"+s)
	}
}

// TestN2Head: nothing but TREE stands first, laid as a text is.
func TestN2Head(t *testing.T) {
	rest := ofNew[5:]
	for _, first := range []string{"\x04TREE", "", "\x00", "\x03TRE", "\x05TREES", "\x05TREE\x00", "\x04tree", "\x04EERT", "TREE", "\x84\x00TREE", "\x05TREE", "\x03TREE"} {
		x, e := snap.Decode(first + rest)
		y, e2 := snap.Restore(first+rest, nil)
		if good := first == "\x04TREE"; good != (e == api.OK) || good != (e2 == api.OK) || good != (x != nil) || good != (y != nil) {
			t.Errorf("with %q: %d, %d", first, e, e2)
		}
		decodes(t, first+rest)
	}
	for _, n := range []int{4095, 4096, 4097, 1 << 17} {
		decodes(t, string(withText(nil, strings.Repeat("T", n)))+rest)
	}
}

// TestN2GreatCounts: a count of which nothing comes is no reason to wait, or to take room.
func TestN2GreatCounts(t *testing.T) {
	whole := small().text()
	for _, count := range []string{"\x80\x02", "\x81\x02", "\xff\xff\xff\xff\x0f", "\xff\xff\xff\xff\xff\xff\xff\xff\xff\x01", "\xff\xff\xff\xff\xff\xff\xff\xff\xff\x02", "\x80\x00", "\x80"} {
		for i := range len(whole) {
			decodes(t, whole[:i]+count)
			decodes(t, whole[:i]+count+whole[i:])
			decodes(t, whole[:i]+count+whole[min(i+1, len(whole)):])
		}
	}
}

// TestN2AnyTexts: texts changed at several places, and pieces of snapshots laid together.
func TestN2AnyTexts(t *testing.T) {
	r := rand.New(rand.NewSource(1))
	from := []string{ofNew, small().text(), shotOf(grown()).text(), shotOf(strays()).text()}
	taken := 0
	for range 40000 {
		b := []byte(from[r.Intn(len(from))])
		for range 1 + r.Intn(3) {
			i, other := r.Intn(len(b)), from[r.Intn(len(from))]
			switch r.Intn(4) {
			case 0:
				b[i] = byte(r.Intn(256))
			case 1:
				b[i] ^= 1 << r.Intn(8)
			case 2:
				b = append(b[:i:i], b[min(len(b), i+r.Intn(4)):]...)
			case 3:
				k := r.Intn(len(other))
				b = append(b[:i:i], append([]byte(other[k:min(len(other), k+r.Intn(9))]), b[i:]...)...)
			}
			if len(b) == 0 {
				b = []byte{4}
			}
		}
		if _, right := parsed(string(b)); right {
			taken++
		}
		decodes(t, string(b))
		if t.Failed() {
			return
		}
	}
	if taken < 2000 {
		t.Errorf("only %d are right", taken)
	}
}
