package tree_test

import (
	"math"
	"math/rand"
	"slices"
	"strconv"
	"strings"
	"testing"

	"arboretum/api"
	"arboretum/tree"
)

var (
	anyone = []api.Acl{{Perms: 31, ID: "world"}}
	some   = []api.Acl{{Perms: 1, ID: "world"}, {Perms: 6, ID: "ann:7c48e6cd280a3c7a"}}
)

// right are paths: of one to six names, up to 60 bytes, and such as begin as others do.
func right() []string {
	return []string{"/a", "/b", "/ab", "/a-x", "/a.b", "/A", "/_", "/a/b", "/a/c", "/a/B", "/a/b-x", "/ab/c", "/b/a", "/a/b/c", "/a/b/c/d", "/a/b/c/d/e", "/a/b/c/d/e/f", "/" + strings.Repeat("x", 59)}
}

// wrong are texts that are no paths, most of them such as differ from one in little.
func wrong() []string {
	return []string{"", "a", "a/b", "//", "/a/", "//a", "/a//b", "/a b", "/.", "/..", "/a/.", "/a/..", "/a\x00", "/ä", "/a/b/c/d/e/f/g", "/" + strings.Repeat("x", 60), "/a/" + strings.Repeat("x", 58), strings.Repeat("/a", 1<<16)}
}

func texts() []string { return append(append(right(), wrong()...), "/") }

func numbers() []int {
	return []int{math.MinInt, -1 << 32, -7, -1, 0, 1, 2, 3, 7, 8, 31, 1 << 32, 1<<32 + 7, math.MaxInt}
}

func creation(p string) api.Txn {
	return api.Txn{Kind: 1, Path: p, Data: "d" + p, Acl: some, Number: 1}
}

func event(kind int, p string, zxid int) api.Event {
	return api.Event{Kind: kind, Path: p, Zxid: zxid}
}

func (p pair) changes(zxid int, x api.Txn, want ...api.Event) {
	p.t.Helper()
	if got := p.apply(zxid, x); !slices.Equal(got, want) {
		p.t.Errorf("Apply(%d, %s): %s, want %s", zxid, brief(x), brief(got), brief(want))
	}
}

func (p pair) paths(want ...string) {
	p.t.Helper()
	if got := p.x.Paths(); !slices.Equal(got, want) {
		p.t.Errorf("Paths: %s, want %s", brief(got), brief(want))
	}
}

func (p pair) stats(at string, want api.Stat) {
	p.t.Helper()
	if got, is := p.x.Stat(at); got != want || !is {
		p.t.Errorf("Stat(%q): %+v, %t, want %+v", at, got, is, want)
	}
}

// grown is a tree with nodes at all that are right, as far as one may come there.
func grown(t *testing.T) pair {
	t.Helper()
	p := newPair(t)
	for i, at := range right() {
		p.apply(i+1, creation(at))
	}
	p.laySession(7, 10, "s")
	p.same()
	return p
}

func TestExamples(t *testing.T) {
	p := newPair(t)
	p.changes(5, api.Txn{Kind: 1, Path: "/a", Data: "x", Number: 1}, event(1, "/a", 5), event(4, "/", 5))
	p.stats("/a", api.Stat{Czxid: 5, Mzxid: 5, Pzxid: 5, Length: 1})
	p.stats("/", api.Stat{Pzxid: 5, Cversion: 1, Kids: 1})
	p.changes(6, api.Txn{Kind: 1, Path: "/b/c"})
	p.same()
	p.changes(7, api.Txn{Kind: 5, Owner: 7, Number: 10})
	p.changes(8, api.Txn{Kind: 1, Path: "/a/e", Owner: 7, Number: 1}, event(1, "/a/e", 8), event(4, "/a", 8))
	if l := p.x.Owned(7); !slices.Equal(l, []string{"/a/e"}) {
		t.Errorf("Owned(7): %q", l)
	}
	p.same()
	p.changes(9, api.Txn{Kind: 6, Owner: 7, Subs: []api.Txn{{Kind: 2, Path: "/a/e", Number: 2}}}, event(2, "/a/e", 9), event(4, "/a", 9))
	if l := p.x.Sessions(); len(l) != 0 {
		t.Errorf("Sessions: %v", l)
	}
	p.same()
}

func TestT1New(t *testing.T) {
	p := newPair(t)
	p.same()
	p.paths("/")
	p.stats("/", api.Stat{})
	if data, s, e := p.x.Get("/"); data != "" || s != (api.Stat{}) || e != api.OK {
		t.Errorf("Get: %q, %+v, %d", data, s, e)
	}
	if l, e := p.x.Acl("/"); !slices.Equal(l, anyone) || e != api.OK {
		t.Errorf("Acl: %v, %d", l, e)
	}
	if p.x.Zxid() != 0 || len(p.x.Sessions()) != 0 {
		t.Errorf("zxid %d, sessions %v", p.x.Zxid(), p.x.Sessions())
	}
}

func TestT2Create(t *testing.T) {
	for _, n := range numbers() {
		for _, owner := range numbers() {
			p := newPair(t)
			p.changes(n, api.Txn{Kind: 1, Path: "/a", Data: "xyz", Acl: some, Owner: owner, Number: n ^ 5}, event(1, "/a", n), event(4, "/", n))
			p.stats("/a", api.Stat{Czxid: n, Mzxid: n, Pzxid: n, Owner: owner, Length: 3})
			p.stats("/", api.Stat{Pzxid: n, Cversion: n ^ 5, Kids: 1})
			p.same()
		}
	}
	// Deeper down it is the same: what is right stands behind its parent.
	p := grown(t)
	p.stats("/a/b/c/d", api.Stat{Czxid: 15, Mzxid: 15, Pzxid: 16, Cversion: 1, Length: 9, Kids: 1})
	p.stats("/a/b/c/d/e/f", api.Stat{Czxid: 17, Mzxid: 17, Pzxid: 17, Length: 13})
}

func TestT2CreateNothing(t *testing.T) {
	p := grown(t)
	for i, at := range append(wrong(), "/", "/c/d", "/a/b/x/y", "/a/x/y", "/"+strings.Repeat("x", 58)+"/y") {
		p.changes(100+i, creation(at))
		p.same()
	}
	// Nothing: neither of the Parent, which is there, of what is no path.
	p = newPair(t)
	for i, at := range []string{"/.", "/a b", "/" + strings.Repeat("x", 60), "//", "/"} {
		p.changes(i+1, creation(at))
		p.stats("/", api.Stat{})
	}
	p.same()
}

func TestT2CreateAnew(t *testing.T) {
	p := grown(t)
	p.apply(50, api.Txn{Kind: 3, Path: "/a", Data: "set", Number: 5})
	p.apply(51, api.Txn{Kind: 4, Path: "/a", Acl: anyone, Number: 6})
	was := p.x.Paths()
	p.changes(60, api.Txn{Kind: 1, Path: "/a", Data: "n", Owner: 7, Number: 9}, event(3, "/a", 60), event(4, "/", 60))
	p.stats("/a", api.Stat{Czxid: 60, Mzxid: 60, Pzxid: 60, Owner: 7, Length: 1, Kids: 4})
	p.paths(was...)
	if l, e := p.x.Acl("/a"); len(l) != 0 || e != api.OK {
		t.Errorf("Acl: %v, %d", l, e)
	}
	p.same()
	p.changes(61, api.Txn{Kind: 1, Path: "/a/b/c/d/e/f", Number: 2}, event(3, "/a/b/c/d/e/f", 61), event(4, "/a/b/c/d/e", 61))
	p.same()
}

func TestT2Delete(t *testing.T) {
	for _, n := range numbers() {
		p := grown(t)
		p.changes(n, api.Txn{Kind: 2, Path: "/b/a", Number: n ^ 5}, event(2, "/b/a", n), event(4, "/b", n))
		p.stats("/b", api.Stat{Czxid: 2, Mzxid: 2, Pzxid: n, Cversion: n ^ 5, Length: 3})
		p.same()
	}
	for i, at := range right() {
		p := grown(t)
		p.apply(100+i, api.Txn{Kind: 2, Path: at, Number: 40, Data: "x", Acl: some, Owner: 7})
		p.same()
		p.apply(200+i, creation(at))
		p.same()
	}
}

func TestT2DeleteUnder(t *testing.T) {
	p := grown(t)
	p.changes(30, api.Txn{Kind: 2, Path: "/a", Number: 3}, event(2, "/a", 30), event(4, "/", 30))
	p.paths("/", "/A", "/_", "/a-x", "/a.b", "/ab", "/ab/c", "/b", "/b/a", "/"+strings.Repeat("x", 59))
	p.same()
	p = grown(t)
	p.changes(30, api.Txn{Kind: 2, Path: "/a/b", Number: 3}, event(2, "/a/b", 30), event(4, "/a", 30))
	p.paths("/", "/A", "/_", "/a", "/a-x", "/a.b", "/a/B", "/a/b-x", "/a/c", "/ab", "/ab/c", "/b", "/b/a", "/"+strings.Repeat("x", 59))
	p.same()
}

// TestT2DeleteOfNone: where no node was the Parent's numbers change all the same, and nothing is told.
func TestT2DeleteOfNone(t *testing.T) {
	p := grown(t)
	p.changes(70, api.Txn{Kind: 2, Path: "/b/x", Number: 8})
	p.stats("/b", api.Stat{Czxid: 2, Mzxid: 2, Pzxid: 70, Cversion: 8, Length: 3, Kids: 1})
	p.same()
	p.changes(71, api.Txn{Kind: 2, Path: "/x/y", Number: 9})
	p.changes(72, api.Txn{Kind: 2, Path: "/x", Number: -9})
	p.stats("/", api.Stat{Pzxid: 72, Cversion: -9, Kids: 8})
	p.same()
	for i, at := range append(wrong(), "/") {
		p.changes(80+i, api.Txn{Kind: 2, Path: at, Number: 77})
		p.same()
	}
	p.stats("/", api.Stat{Pzxid: 72, Cversion: -9, Kids: 8})
}

// TestT2DeleteOfStrays: nodes that stand without their Parent.
func TestT2DeleteOfStrays(t *testing.T) {
	p := newPair(t)
	for _, at := range []string{"/p/q", "/p/q/r/s", "/p/qq", "/p/q-", "/z/a/b"} {
		p.lay(at, "", nil, api.Stat{})
	}
	p.same()
	p.changes(3, api.Txn{Kind: 2, Path: "/p/q", Number: 4}, event(2, "/p/q", 3))
	p.paths("/", "/p/q-", "/p/qq", "/z/a/b")
	p.same()
	p.changes(4, api.Txn{Kind: 2, Path: "/z", Number: 5})
	p.paths("/", "/p/q-", "/p/qq")
	p.stats("/", api.Stat{Pzxid: 4, Cversion: 5})
	p.same()
	p.changes(5, api.Txn{Kind: 1, Path: "/p/q/a"})
	p.changes(6, api.Txn{Kind: 1, Path: "/p", Number: 6}, event(1, "/p", 6), event(4, "/", 6))
	p.stats("/p", api.Stat{Czxid: 6, Mzxid: 6, Pzxid: 6, Kids: 2})
	p.same()
}

func TestT2Set(t *testing.T) {
	for _, at := range append(right(), "/") {
		for _, n := range numbers() {
			p := grown(t)
			s, _ := p.x.Stat(at)
			s.Mzxid, s.Version, s.Length = n, n^5, 4
			p.changes(n, api.Txn{Kind: 3, Path: at, Data: "data", Number: n ^ 5, Acl: anyone, Owner: 9}, event(3, at, n))
			p.stats(at, s)
			p.same()
		}
	}
	p := grown(t)
	p.changes(90, api.Txn{Kind: 3, Path: "/a"}, event(3, "/a", 90))
	p.changes(91, api.Txn{Kind: 3, Path: "/b", Data: strings.Repeat("\xff\x00", 1<<16)}, event(3, "/b", 91))
	p.same()
}

func TestT2Acl(t *testing.T) {
	for _, at := range append(right(), "/") {
		for _, n := range numbers() {
			p := grown(t)
			s, _ := p.x.Stat(at)
			s.Aversion = n ^ 5
			l := []api.Acl{{Perms: n, ID: "any text"}, {}, {Perms: 31, ID: "world"}}
			p.changes(n, api.Txn{Kind: 4, Path: at, Data: "no", Number: n ^ 5, Acl: l, Owner: 9})
			p.stats(at, s)
			p.same()
		}
	}
	p := grown(t)
	p.changes(90, api.Txn{Kind: 4, Path: "/a"})
	p.changes(91, api.Txn{Kind: 4, Path: "/b", Acl: []api.Acl{}})
	p.changes(92, api.Txn{Kind: 4, Path: "/ab", Acl: slices.Repeat(some, 1000)})
	p.same()
}

func TestT2SetAndAclOfNone(t *testing.T) {
	p := grown(t)
	for i, at := range append(wrong(), "/x", "/b/x", "/a/b/c/d/e/g") {
		p.changes(100+i, api.Txn{Kind: 3, Path: at, Data: "x", Number: 4})
		p.changes(200+i, api.Txn{Kind: 4, Path: at, Acl: some, Number: 4})
		p.same()
	}
}

func TestT2Open(t *testing.T) {
	p := newPair(t)
	for i, owner := range numbers() {
		for k, timeout := range numbers() {
			p.changes(100*i+k, api.Txn{Kind: 5, Owner: owner, Number: timeout, Data: strings.Repeat("s", k), Path: "/a", Subs: []api.Txn{creation("/a")}})
			p.sameSessions()
		}
	}
	p.same()
	if l := p.x.Sessions(); !slices.Equal(l, []int{1, 2, 3, 7, 8, 31, 1 << 32, 1<<32 + 7, math.MaxInt}) {
		t.Errorf("Sessions: %v", l)
	}
	p.changes(1, api.Txn{Kind: 5, Owner: 7})
	if timeout, secret, is := p.x.Session(7); timeout != 0 || secret != "" || !is {
		t.Errorf("Session(7): %d, %q, %t", timeout, secret, is)
	}
}

func TestT2Close(t *testing.T) {
	p := grown(t)
	for i, id := range numbers() {
		p.apply(100+i, api.Txn{Kind: 5, Owner: id, Number: id, Data: "s"})
	}
	subs := []api.Txn{{Kind: 2, Path: "/b/a", Number: 3}, creation("/n"), {Kind: 3, Path: "/a", Data: "n"}, {Kind: 4, Path: "/a"}, {Kind: 5, Owner: 77}, {Kind: 6, Owner: 8}, {Kind: 7, Subs: []api.Txn{{Kind: 2, Path: "/b"}}}, {Kind: 8, Err: 60}, {Kind: 0, Path: "/b"}, {Kind: 2, Path: "/"}, {Kind: 2, Path: "/none", Number: 6}, {Kind: 2, Path: "/a/b", Number: 2}, {Kind: 2, Path: "/a/b/c"}}
	p.changes(300, api.Txn{Kind: 6, Owner: 7, Subs: subs, Path: "/ab", Number: 8, Data: "x", Err: 66}, event(2, "/b/a", 300), event(4, "/b", 300), event(2, "/a/b", 300), event(4, "/a", 300))
	p.same()
	if _, _, is := p.x.Session(7); is {
		t.Error("the session 7 is there")
	}
	for i, id := range numbers() {
		p.changes(400+i, api.Txn{Kind: 6, Owner: id, Path: "/a"})
		p.changes(400+i, api.Txn{Kind: 6, Owner: id})
		p.same()
	}
	if l := p.x.Sessions(); len(l) != 0 {
		t.Errorf("Sessions: %v", l)
	}
}

// TestT2CloseLeavesWhatItDoesNotName: a TxnClose takes away the nodes of its Subs alone, whoever owns them.
func TestT2CloseLeavesWhatItDoesNotName(t *testing.T) {
	p := newPair(t)
	p.apply(1, api.Txn{Kind: 5, Owner: 7, Number: 10})
	p.apply(2, api.Txn{Kind: 5, Owner: 8, Number: 10})
	p.apply(3, api.Txn{Kind: 1, Path: "/e", Owner: 7})
	p.apply(4, api.Txn{Kind: 1, Path: "/f", Owner: 8})
	p.changes(5, api.Txn{Kind: 6, Owner: 7, Subs: []api.Txn{{Kind: 2, Path: "/f", Number: 9}}}, event(2, "/f", 5), event(4, "/", 5))
	p.paths("/", "/e")
	if l := p.x.Owned(7); !slices.Equal(l, []string{"/e"}) || !slices.Equal(p.x.Sessions(), []int{8}) {
		t.Errorf("Owned(7): %q, Sessions: %v", l, p.x.Sessions())
	}
	p.same()
}

func TestT2Multi(t *testing.T) {
	p := grown(t)
	subs := []api.Txn{
		{Kind: 1, Path: "/m", Data: "m", Number: 3},
		{Kind: 1, Path: "/m/n", Owner: 7, Number: 1},
		{Kind: 0, Path: "/m"},
		{Kind: 3, Path: "/m", Data: "mm", Number: 1},
		{Kind: 4, Path: "/m", Acl: some, Number: 2},
		{Kind: 5, Owner: 9, Number: 10},
		{Kind: 6, Owner: 7, Subs: []api.Txn{{Kind: 2, Path: "/m"}}},
		{Kind: 7, Subs: []api.Txn{{Kind: 2, Path: "/m"}}},
		{Kind: 8, Err: 66, Number: 1},
		{Kind: 1, Path: "/m", Number: 4},
		{Kind: 2, Path: "/b", Number: 5},
		{Kind: 1, Path: "/b/a", Number: 6},
	}
	p.changes(40, api.Txn{Kind: 7, Subs: subs, Path: "/a", Owner: 7, Number: 2, Data: "x", Err: 66},
		event(1, "/m", 40), event(4, "/", 40), event(1, "/m/n", 40), event(4, "/m", 40), event(3, "/m", 40), event(3, "/m", 40), event(4, "/", 40), event(2, "/b", 40), event(4, "/", 40))
	p.stats("/m", api.Stat{Czxid: 40, Mzxid: 40, Pzxid: 40, Kids: 1})
	p.same()
	p.changes(41, api.Txn{Kind: 7})
	p.changes(42, api.Txn{Kind: 7, Path: "/a", Subs: []api.Txn{}})
	p.same()
}

// TestT2OtherKinds: they do nothing, but their zxid is the tree's.
func TestT2OtherKinds(t *testing.T) {
	p := grown(t)
	subs := []api.Txn{creation("/n"), {Kind: 2, Path: "/a"}}
	for _, kind := range []int{math.MinInt, -8, -1, 0, 8, 9, 10, 1<<32 + 1, 256 + 1, math.MaxInt} {
		for i, at := range append(texts(), "/n") {
			p.changes(1000-i, api.Txn{Kind: kind, Path: at, Data: "x", Acl: anyone, Owner: 7, Number: 3, Subs: subs})
		}
		p.same()
	}
	was := p.x.Clone()
	for i, err := range numbers() {
		l, e := p.x.Apply(api.Entry{Zxid: i, Txn: api.Txn{Kind: 8, Err: api.Errno(err), Path: "/a", Owner: 7, Number: 1, Subs: subs}})
		if len(l) != 0 || e != api.Errno(err) || p.x.Zxid() != i {
			t.Errorf("Apply of the error %d: %v, %d, zxid %d", err, l, e, p.x.Zxid())
		}
		was.LayZxid(i)
		if !p.x.Same(was) {
			t.Errorf("the error %d changes the tree", err)
		}
		// An Err bears upon nothing but a TxnError.
		for kind := range 8 {
			if _, e := tree.New().Apply(api.Entry{Zxid: 1, Txn: api.Txn{Kind: kind, Err: api.Errno(err), Path: "/a"}}); e != api.OK {
				t.Errorf("Apply of the kind %d with the Err %d: %d", kind, err, e)
			}
		}
	}
}

// TestT2Zxid: the tree's is that of the entry, whatever it was.
func TestT2Zxid(t *testing.T) {
	p := newPair(t)
	for kind := -1; kind < 10; kind++ {
		for _, z := range append(numbers(), 5, 4, 3) {
			p.apply(z, api.Txn{Kind: kind, Path: "/a", Err: 60, Owner: 7})
			if p.x.Zxid() != z {
				t.Errorf("Zxid: %d, want %d", p.x.Zxid(), z)
			}
		}
	}
	p.same()
}

func TestT3Kids(t *testing.T) {
	p := newPair(t)
	names := []string{"b", "a", "B", "-", ".a", "_", "0", "10", "9", "aa", "a-", "a.", "Z", "ab"}
	for i, name := range names {
		p.apply(2*i, creation("/"+name))
		p.apply(2*i+1, creation("/"+name+"/kid"))
		p.apply(2*i+1, creation("/"+name+"/a"))
	}
	for _, at := range []string{"/", "/a", "/b"} {
		p.sameNode(at)
	}
	want := []string{"-", ".a", "0", "10", "9", "B", "Z", "_", "a", "a-", "a.", "aa", "ab", "b"}
	if l, e := p.x.Kids("/"); !slices.Equal(l, want) || e != api.OK {
		t.Errorf("Kids: %q, %d", l, e)
	}
	if l, e := p.x.Kids("/a/a"); len(l) != 0 || e != api.OK {
		t.Errorf("Kids: %q, %d", l, e)
	}
	p.stats("/", api.Stat{Pzxid: 26, Cversion: 1, Kids: len(want)})
	// Nobody is the kid of what is no node, not even the root, whose Parent is the empty text.
	for _, at := range []string{"", "/none", "a"} {
		if l, e := p.x.Kids(at); len(l) != 0 || e != api.ErrTreeNone {
			t.Errorf("Kids(%q): %q, %d", at, l, e)
		}
	}
}

// TestT3Length: bytes, not runes.
func TestT3Length(t *testing.T) {
	p := newPair(t)
	for i, data := range []string{"", "x", "ä€", "\xff\xfe", strings.Repeat("z", 101), strings.Repeat("z", 1<<20)} {
		p.apply(i, api.Txn{Kind: 1, Path: "/a", Data: data})
		p.stats("/a", api.Stat{Czxid: i, Mzxid: i, Pzxid: i, Length: len(data)})
		p.lay("/b", data, nil, api.Stat{Length: 12345, Kids: 67})
		p.stats("/b", api.Stat{Length: len(data)})
		p.same()
	}
}

func TestT4Owned(t *testing.T) {
	p := newPair(t)
	for _, at := range append(right(), "/") {
		for i, id := range numbers() {
			p.lay(at, "", nil, api.Stat{Owner: id})
			if i%3 == len(at)%3 {
				p.same()
			}
		}
		p.lay(at, "", nil, api.Stat{Owner: []int{0, 7, 8, -1}[len(at)%4]})
	}
	p.same()
	if l := p.x.Owned(0); len(l) != 0 {
		t.Errorf("Owned(0): %q", l)
	}
	// Who owns a node need be no session.
	if l := p.x.Sessions(); len(l) != 0 {
		t.Errorf("Sessions: %v", l)
	}
}

func TestT5Lay(t *testing.T) {
	for _, at := range append(right(), "/") {
		p := newPair(t)
		p.lay(at, "first", some, api.Stat{Czxid: 1, Mzxid: 2, Pzxid: 3, Version: 4, Cversion: 5, Aversion: 6, Owner: 7, Length: 8, Kids: 9})
		p.stats(at, api.Stat{Czxid: 1, Mzxid: 2, Pzxid: 3, Version: 4, Cversion: 5, Aversion: 6, Owner: 7, Length: 5})
		p.same()
		p.lay(at, "", nil, api.Stat{Czxid: -1, Mzxid: math.MaxInt, Pzxid: math.MinInt, Version: -4, Cversion: -5, Aversion: -6, Owner: -7})
		p.same()
	}
	p := grown(t)
	was := p.x.Clone()
	for _, at := range wrong() {
		p.lay(at, "x", some, api.Stat{Czxid: 1})
		p.same()
	}
	if !p.x.Same(was) {
		t.Error("what is no path was laid")
	}
	// Nobody's parent changes, and what lies under a node stays.
	p.lay("/a", "new", anyone, api.Stat{Czxid: 99})
	p.lay("/b/new", "new", anyone, api.Stat{Czxid: 99})
	p.same()
	p.stats("/a", api.Stat{Czxid: 99, Length: 3, Kids: 4})
	p.stats("/b", api.Stat{Czxid: 2, Mzxid: 2, Pzxid: 13, Cversion: 1, Length: 3, Kids: 2})
}

func TestT5LaySessionAndZxid(t *testing.T) {
	p := newPair(t)
	for i, id := range numbers() {
		for k, n := range numbers() {
			p.laySession(id, n, strings.Repeat("w", (i+k)%5))
			p.layZxid(n ^ i)
			p.sameSessions()
		}
		p.same()
	}
	p.paths("/")
}

func differ(t *testing.T, what string, x, y *tree.Tree) {
	t.Helper()
	if x.Same(y) || y.Same(x) {
		t.Errorf("%s: same", what)
	}
}

func equal(t *testing.T, what string, x, y *tree.Tree) {
	t.Helper()
	if !x.Same(y) || !y.Same(x) {
		t.Errorf("%s: not same", what)
	}
}

// TestT5Same: each thing of a node, of a session, and the zxid, tells two trees apart.
func TestT5Same(t *testing.T) {
	base := grown(t)
	full := api.Stat{Czxid: 1, Mzxid: 2, Pzxid: 3, Version: 4, Cversion: 5, Aversion: 6, Owner: 7}
	lay := func(data string, rows []api.Acl, s api.Stat) *tree.Tree {
		x := base.x.Clone()
		x.Lay("/a/c", data, rows, s)
		return x
	}
	x := lay("d", some, full)
	differ(t, "laid", x, base.x)
	equal(t, "laid twice", x, lay("d", some, full))
	equal(t, "Length and Kids", x, lay("d", some, api.Stat{Czxid: 1, Mzxid: 2, Pzxid: 3, Version: 4, Cversion: 5, Aversion: 6, Owner: 7, Length: 8, Kids: 9}))
	equal(t, "no rows", lay("d", nil, full), lay("d", []api.Acl{}, full))
	for _, data := range []string{"", "D", "dd", "d\x00"} {
		differ(t, "data", x, lay(data, some, full))
	}
	for _, rows := range [][]api.Acl{nil, some[:1], some[1:], {some[1], some[0]}, append(slices.Clone(some), some[0]), {some[0], {Perms: 7, ID: some[1].ID}}, {some[0], {Perms: 6, ID: "bob"}}} {
		differ(t, "rows", x, lay("d", rows, full))
	}
	for i := range 7 {
		s := full
		*[]*int{&s.Czxid, &s.Mzxid, &s.Pzxid, &s.Version, &s.Cversion, &s.Aversion, &s.Owner}[i]++
		differ(t, "Stat", x, lay("d", some, s))
	}
}

func TestT5SameOfTheRest(t *testing.T) {
	x := grown(t).x
	equal(t, "made alike", x, grown(t).x)
	equal(t, "itself", x, x)
	equal(t, "new ones", tree.New(), tree.New())
	differ(t, "a new one", x, tree.New())
	for _, y := range []*tree.Tree{x, tree.New()} {
		if y.Same(nil) {
			t.Error("nil: same")
		}
	}
	changed := func(what string, change func(y *tree.Tree)) {
		t.Helper()
		y := x.Clone()
		equal(t, "a clone", x, y)
		change(y)
		differ(t, what, x, y)
	}
	changed("zxid", func(y *tree.Tree) { y.LayZxid(x.Zxid() + 1) })
	changed("a session", func(y *tree.Tree) { y.LaySession(8, 10, "s") })
	changed("another session", func(y *tree.Tree) {
		y.LaySession(8, 10, "s")
		y.Apply(api.Entry{Zxid: x.Zxid(), Txn: api.Txn{Kind: 6, Owner: 7}})
	})
	changed("no session", func(y *tree.Tree) { y.Apply(api.Entry{Zxid: x.Zxid(), Txn: api.Txn{Kind: 6, Owner: 7}}) })
	changed("timeout", func(y *tree.Tree) { y.LaySession(7, 11, "s") })
	changed("password", func(y *tree.Tree) { y.LaySession(7, 10, "S") })
	changed("one node more", func(y *tree.Tree) { y.Lay("/n", "", nil, api.Stat{}) })
	changed("another node", func(y *tree.Tree) {
		s, _ := x.Stat("/")
		y.Apply(api.Entry{Zxid: x.Zxid(), Txn: api.Txn{Kind: 2, Path: "/_"}})
		y.Lay("/n", "d/_", some, api.Stat{Czxid: 7, Mzxid: 7, Pzxid: 7})
		y.Lay("/", "", anyone, s)
	})
	changed("one node less", func(y *tree.Tree) {
		s, _ := x.Stat("/")
		y.Apply(api.Entry{Zxid: x.Zxid(), Txn: api.Txn{Kind: 2, Path: "/_"}})
		y.Lay("/", "", anyone, s)
	})
}

// anyTxn is a transaction of any kind, more often than not such as finds a node.
func anyTxn(r *rand.Rand, deep int) api.Txn {
	from := append(right(), "/")
	if r.Intn(6) == 0 {
		from = texts()
	}
	x := api.Txn{Kind: r.Intn(11) - 1, Path: from[r.Intn(len(from))], Data: strings.Repeat("x", r.Intn(4)), Owner: r.Intn(5) - 1, Number: r.Intn(40) - 5, Err: api.Errno(r.Intn(70))}
	if r.Intn(2) == 0 {
		x.Kind = 1
	}
	for range r.Intn(3) {
		x.Acl = append(x.Acl, api.Acl{Perms: r.Intn(40) - 3, ID: []string{"world", "", "x"}[r.Intn(3)]})
	}
	if deep > 0 {
		for range r.Intn(5) {
			x.Subs = append(x.Subs, anyTxn(r, deep-1))
		}
	}
	return x
}

func (p pair) anyLay(r *rand.Rand) {
	from := texts()
	switch x := anyTxn(r, 0); r.Intn(3) {
	case 0:
		p.lay(from[r.Intn(len(from))], x.Data, x.Acl, api.Stat{Czxid: r.Intn(9), Mzxid: r.Intn(9), Pzxid: r.Intn(9), Version: r.Intn(9), Cversion: r.Intn(9), Aversion: r.Intn(9), Owner: r.Intn(5) - 1, Length: r.Intn(9), Kids: r.Intn(9)})
	case 1:
		p.laySession(x.Owner, x.Number, x.Data)
	case 2:
		p.layZxid(x.Number)
	}
}

func TestAnyCalls(t *testing.T) {
	r := rand.New(rand.NewSource(1))
	told := map[int]int{}
	for range 300 {
		p := newPair(t)
		for range 60 {
			if r.Intn(6) == 0 {
				p.anyLay(r)
			} else {
				for _, e := range p.apply(r.Intn(1000)-10, anyTxn(r, 2)) {
					told[e.Kind]++
				}
			}
			if r.Intn(20) == 0 {
				p.x = p.x.Clone()
			}
			if r.Intn(4) == 0 {
				p.same()
			}
		}
		p.same()
		if t.Failed() {
			return
		}
	}
	if len(told) != 4 || min(told[1], told[2], told[3], told[4]) < 150 {
		t.Errorf("only %v of each event", told)
	}
}

// soundHistory goes on from a tree, and answers its entries.
func soundHistory(r *rand.Rand, p pair, n int) []api.Entry {
	l, zxid := []api.Entry{}, p.m.zxid
	for len(l) < n {
		x := anyTxn(r, 1)
		if !p.m.sound(x) {
			continue
		}
		zxid += 1 + r.Intn(3)
		p.apply(zxid, x)
		l = append(l, api.Entry{Zxid: zxid, Session: 3, Xid: 4, Txn: x})
	}
	return l
}

// TestT6DoneAgain: the end of a sound history, from any entry on, on the tree that came of the whole.
func TestT6DoneAgain(t *testing.T) {
	r := rand.New(rand.NewSource(2))
	kinds := map[int]int{}
	for round := range 200 {
		p := newPair(t)
		for range round % 4 {
			soundHistory(r, p, 10)
		}
		l := soundHistory(r, p, 30)
		for i := range l {
			kinds[l[i].Txn.Kind]++
			x := p.x.Clone()
			for _, e := range l[i:] {
				x.Apply(e)
			}
			equal(t, "done again", x, p.x)
		}
		p.same()
		if t.Failed() {
			return
		}
	}
	for kind := 1; kind <= 8; kind++ {
		if kinds[kind] < 50 {
			t.Errorf("only %v of each kind", kinds)
		}
	}
}

// TestR3NothingIsWritten: neither what is handed in nor what stands behind its length.
func TestR3NothingIsWritten(t *testing.T) {
	behind := []api.Acl{some[0], some[1], {Perms: 9, ID: "behind"}}
	subs := []api.Txn{{Kind: 1, Path: "/a", Acl: behind[:2]}, {Kind: 4, Path: "/a", Acl: behind[:1]}, {Kind: 2, Path: "/a"}, {Kind: 1, Path: "/behind"}}
	rows, parts := slices.Clone(behind), slices.Clone(subs)
	p := newPair(t)
	for kind := range 10 {
		p.apply(kind, api.Txn{Kind: kind, Path: "/b", Acl: behind[:2], Owner: 7, Subs: subs[:3]})
		p.lay("/c", "", behind[:2], api.Stat{})
		p.same()
	}
	for i := range subs {
		if subs[i].Kind != parts[i].Kind || subs[i].Path != parts[i].Path || !slices.Equal(subs[i].Acl, parts[i].Acl) {
			t.Errorf("a part was written into: %+v", subs[i])
		}
	}
	if !slices.Equal(behind, rows) {
		t.Errorf("rows were written into: %v", behind)
	}
}

// TestR3NothingIsKept: who handed rows in may write into them.
func TestR3NothingIsKept(t *testing.T) {
	rows := slices.Clone(some)
	p := newPair(t)
	p.apply(1, api.Txn{Kind: 1, Path: "/a", Acl: rows})
	p.apply(2, api.Txn{Kind: 1, Path: "/b"})
	p.apply(3, api.Txn{Kind: 4, Path: "/b", Acl: rows})
	p.apply(4, api.Txn{Kind: 7, Subs: []api.Txn{{Kind: 1, Path: "/c", Acl: rows}}})
	p.lay("/d", "", rows, api.Stat{})
	clear(rows)
	for _, at := range []string{"/a", "/b", "/c", "/d"} {
		if l, _ := p.x.Acl(at); !slices.Equal(l, some) {
			t.Errorf("Acl(%q): %v", at, l)
		}
	}
	p.same()
}

// spoil writes into a list and its spare room, and grows it.
func spoil[T any](l []T, by T) {
	l = l[:cap(l)]
	for i := range l {
		l[i] = by
	}
	_ = append(l, by)
}

// TestR3NewMemory: who got an answer may write into it.
func TestR3NewMemory(t *testing.T) {
	p := grown(t)
	p.apply(90, api.Txn{Kind: 1, Path: "/e", Owner: 7, Acl: some})
	p.apply(91, api.Txn{Kind: 1, Path: "/f", Owner: 7, Acl: some})
	c := p.x.Clone()
	for range 3 {
		rows, _ := p.x.Acl("/a")
		other, _ := c.Acl("/a")
		kids, _ := p.x.Kids("/")
		more, _ := p.x.Kids("/")
		spoil(rows, api.Acl{Perms: 16, ID: "spoilt"})
		spoil(kids, "spoilt")
		spoil(p.x.Paths(), "spoilt")
		spoil(p.x.Owned(7), "spoilt")
		spoil(p.x.Sessions(), 99)
		if !slices.Equal(other, some) || !slices.Equal(more, p.m.kids("/")) {
			t.Errorf("%v, %q", other, more)
		}
		p.same()
		equal(t, "spoilt", p.x, c)
	}
	l, _ := p.x.Apply(api.Entry{Zxid: 92, Txn: api.Txn{Kind: 3, Path: "/a"}})
	k, _ := p.x.Apply(api.Entry{Zxid: 92, Txn: api.Txn{Kind: 3, Path: "/a"}})
	spoil(l, api.Event{})
	if !slices.Equal(k, []api.Event{event(3, "/a", 92)}) {
		t.Errorf("events: %v", k)
	}
}

// TestR4TreesAreApart: what is done to one is not done to another one, nor to its clone.
func TestR4TreesAreApart(t *testing.T) {
	r := rand.New(rand.NewSource(3))
	for range 50 {
		p := newPair(t)
		soundHistory(r, p, 15)
		q := pair{t, p.x.Clone(), &model{nodes: slices.Clone(p.m.nodes), sessions: slices.Clone(p.m.sessions), zxid: p.m.zxid}}
		equal(t, "a clone", p.x, q.x)
		for range 30 {
			one := []pair{p, q}[r.Intn(2)]
			one.apply(one.m.zxid+1, anyTxn(r, 1))
			one.anyLay(r)
		}
		p.same()
		q.same()
		fresh := newPair(t)
		fresh.same()
	}
}

// TestR4TheSameAnswers: two trees on which the same was done tell the same, in the same order.
func TestR4TheSameAnswers(t *testing.T) {
	x, y := grown(t).x, grown(t).x
	for range 20 {
		if !slices.Equal(x.Paths(), y.Paths()) || !slices.Equal(x.Sessions(), y.Sessions()) {
			t.Fatalf("%q, %q", x.Paths(), y.Paths())
		}
		k, _ := x.Kids("/")
		l, _ := y.Kids("/")
		if !slices.Equal(k, l) {
			t.Fatalf("%q, %q", k, l)
		}
	}
}

// TestManyNodes: how many there may be is not the tree's to say.
func TestManyNodes(t *testing.T) {
	x, subs := tree.New(), []api.Txn{}
	for i := range 3000 {
		subs = append(subs, creation("/n"+strconv.Itoa(i)))
	}
	events, e := x.Apply(api.Entry{Zxid: 1, Txn: api.Txn{Kind: 7, Subs: subs}})
	if len(events) != 6000 || e != api.OK {
		t.Errorf("%d events, %d", len(events), e)
	}
	for i := range subs {
		subs[i].Kind = 2
	}
	if x.Apply(api.Entry{Zxid: 2, Txn: api.Txn{Kind: 6, Subs: subs}}); len(x.Paths()) != 1 {
		t.Errorf("%d nodes are left", len(x.Paths()))
	}
}
