package snap_test

import (
	"math"
	"math/rand"
	"slices"
	"strings"
	"testing"

	"arboretum/api"
	"arboretum/path"
	"arboretum/snap"
	"arboretum/tree"
)

func create(zxid int, p string, number int) api.Entry {
	return api.Entry{Zxid: zxid, Session: 3, Xid: 4, Txn: api.Txn{Kind: api.TxnCreate, Path: p, Data: "d" + p, Acl: some, Number: number}}
}

func remove(zxid int, p string, number int) api.Entry {
	return api.Entry{Zxid: zxid, Session: 3, Xid: 4, Txn: api.Txn{Kind: api.TxnDelete, Path: p, Number: number}}
}

// pair is a fuzzy snapshot and its model, of one tree.
type pair struct {
	t    *testing.T
	x    *tree.Tree
	f    *snap.Fuzzy
	m    *stepper
	from int
}

func newPair(t *testing.T, x *tree.Tree) pair {
	t.Helper()
	p := pair{t, x, snap.Begin(x), begun(x), x.Zxid()}
	if p.f == nil {
		t.Fatal("Begin: nil")
	}
	p.same()
	return p
}

// step goes on with both, and tells whether all is laid.
func (p pair) step(n int) bool {
	p.t.Helper()
	was := p.x.Clone()
	all, want := p.f.Step(n), p.m.step(n)
	if all != want {
		p.t.Errorf("Step(%d): %t, want %t", n, all, want)
	}
	if !p.x.Same(was) {
		p.t.Errorf("Step(%d) has changed the tree", n)
	}
	p.same()
	return want
}

func (p pair) same() {
	p.t.Helper()
	if s, want := p.f.Text(), p.m.text(); s != want {
		p.t.Errorf("Text: %s, want %s", brief(s), brief(want))
	}
	if p.f.From() != p.from {
		p.t.Errorf("From: %d, want %d", p.f.From(), p.from)
	}
}

// apply changes the tree, of which the snapshot must not know ahead of its next step.
func (p pair) apply(e api.Entry) {
	p.t.Helper()
	p.x.Apply(e)
	p.same()
}

func restored(t *testing.T, s string, l []api.Entry) *tree.Tree {
	t.Helper()
	x, e := snap.Restore(s, l)
	if x == nil || e != api.OK {
		t.Fatalf("Restore of %s: %v, %d", brief(s), x, e)
	}
	return x
}

func TestExample2(t *testing.T) {
	x := tree.New()
	x.Apply(create(5, "/a", 1))
	p := newPair(t, x)
	p.step(1)
	l := []api.Entry{remove(9, "/a", 2), create(10, "/b", 3)}
	p.apply(l[0])
	p.apply(l[1])
	if p.step(1) || !p.step(1) || !p.step(1) {
		t.Error("the root, /b, all")
	}
	y := restored(t, p.f.Text(), nil)
	if s, _ := y.Stat("/"); !slices.Equal(y.Paths(), []string{"/", "/b"}) || s.Cversion != 1 || y.Zxid() != 5 || y.Same(x) {
		t.Errorf("%q, %+v, zxid %d", y.Paths(), s, y.Zxid())
	}
	if !restored(t, p.f.Text(), l).Same(x) {
		t.Error("the entries do not mend it")
	}
}

func TestN3Nil(t *testing.T) {
	f := snap.Begin(nil)
	if f != nil {
		t.Fatalf("Begin(nil): %v", f)
	}
	for _, n := range numbers() {
		if f.Step(n) || f.Text() != "" || f.From() != 0 {
			t.Errorf("of nil: %t, %q, %d", f.Step(n), f.Text(), f.From())
		}
	}
}

// TestN3Steps: of a tree that does not change, by steps of each size.
func TestN3Steps(t *testing.T) {
	for _, x := range trees() {
		for _, n := range []int{1, 2, 5, 255, 256, 257, 258, 1000, math.MaxInt} {
			if n < 100 && len(x.Paths()) > 100 {
				continue
			}
			p := newPair(t, x)
			for !p.step(n) {
				p.step(0)
				p.step(-1)
				p.step(math.MinInt)
			}
			for _, more := range numbers() {
				if !p.step(more) {
					t.Errorf("Step(%d): false, when all is laid", more)
				}
			}
			if p.f.Text() != snap.Encode(x) {
				t.Errorf("Text: %s", brief(p.f.Text()))
			}
		}
	}
}

// TestN3LastStep: that of the sessions is one of its own.
func TestN3LastStep(t *testing.T) {
	for _, nodes := range []int{1, 2, 7, 256, 300} {
		x := many(nodes, 3)
		for _, ahead := range []int{0, 1, nodes - 1, nodes} {
			p := newPair(t, x)
			if p.step(ahead) || p.step(nodes-ahead) || p.step(0) {
				t.Errorf("%d nodes: all is laid too early", nodes)
			}
			if !p.step(1) {
				t.Errorf("%d nodes: all is not laid", nodes)
			}
			p = newPair(t, x)
			if p.step(ahead); !p.step(nodes - ahead + 1) {
				t.Errorf("%d nodes: all is not laid", nodes)
			}
		}
	}
}

// TestN3Changes: what is ahead of the last path stays as it was laid, what is behind it is laid as it is then.
func TestN3Changes(t *testing.T) {
	x := tree.New()
	for i, p := range []string{"/b", "/c", "/d"} {
		x.Apply(create(i+1, p, i+1))
	}
	x.LaySession(1, 10, "one")
	p := newPair(t, x)
	p.step(2)
	x.LayZxid(77)
	x.Lay("/", "late", nil, full)
	x.Lay("/b", "late", nil, full)
	x.Lay("/c", "late", nil, full)
	for i, e := range []api.Entry{create(10, "/a", 4), create(11, "/b-", 5), create(12, "/b/x", 1), create(13, "/c/y", 1), remove(14, "/b", 7), remove(15, "/d", 8), create(16, "/e", 9)} {
		p.apply(e)
		if i%2 == 0 {
			p.step(0)
		}
	}
	x.LaySession(2, 20, "two")
	if p.step(3) || p.step(1) {
		t.Error("all is laid too early")
	}
	x.LaySession(3, 30, "three")
	p.apply(api.Entry{Zxid: 17, Txn: api.Txn{Kind: api.TxnClose, Owner: 1}})
	if !p.step(1) {
		t.Error("all is not laid")
	}
	got, right := parsed(p.f.Text())
	var paths, data []string
	for _, n := range got.nodes {
		paths, data = append(paths, n.path), append(data, n.data)
	}
	if !right || !slices.Equal(paths, []string{"/", "/b", "/b-", "/c", "/c/y", "/e"}) || !slices.Equal(data, []string{"", "d/b", "d/b-", "late", "d/c/y", "d/e"}) {
		t.Errorf("%q, %q", paths, data)
	}
	if !slices.Equal(got.holders, []holder{{2, 20, "two"}, {3, 30, "three"}}) || got.zxid != 3 {
		t.Errorf("%v, %d", got.holders, got.zxid)
	}
	x.LaySession(4, 40, "four")
	p.apply(create(18, "/z", 9))
	p.step(5)
}

// TestN3LastIsGone: the node that was laid last may go, and come back; its place stays.
func TestN3LastIsGone(t *testing.T) {
	x := tree.New()
	for i, p := range []string{"/a", "/b", "/b/c", "/d"} {
		x.Apply(create(i+1, p, i+1))
	}
	p := newPair(t, x)
	p.step(3)
	p.apply(remove(10, "/b", 5))
	p.step(0)
	p.apply(create(11, "/b", 6))
	p.apply(create(12, "/aa", 7))
	p.step(1)
	p.apply(remove(13, "/d", 8))
	p.apply(remove(14, "/b", 9))
	if !p.step(1) {
		t.Error("all is not laid")
	}
	if got, _ := parsed(p.f.Text()); len(got.nodes) != 4 || got.nodes[2].stat.Czxid != 2 || got.nodes[3].path != "/d" {
		t.Errorf("%+v", got.nodes)
	}
}

// TestN3Apart: several of one tree, begun and gone on with at their own times.
func TestN3Apart(t *testing.T) {
	r := rand.New(rand.NewSource(2))
	for range 100 {
		x, zxid, l := tree.New(), 0, []pair{}
		for len(l) < 6 || r.Intn(40) > 0 {
			switch r.Intn(4) {
			case 0:
				if len(l) < 8 {
					l = append(l, newPair(t, x))
				}
			case 1:
				if len(l) > 0 {
					l[r.Intn(len(l))].step(r.Intn(4))
				}
			default:
				zxid += r.Intn(3)
				x.Apply(api.Entry{Zxid: zxid, Txn: anyTxn(r, 1)})
			}
		}
		for _, p := range l {
			p.same()
		}
		if t.Failed() {
			return
		}
	}
}

// TestN3Wide: a snapshot may tell more than may be taken up again.
func TestN3Wide(t *testing.T) {
	x := many(257, 0)
	p := newPair(t, x)
	p.step(300)
	if y, e := snap.Restore(p.f.Text(), nil); y != nil || e != api.ErrSnapForm {
		t.Errorf("%v, %d", y, e)
	}
}

// TestN4Entries: those above the snapshot's zxid alone, in the order in which they stand.
func TestN4Entries(t *testing.T) {
	s := small()
	ahead := []api.Entry{create(s.zxid, "/m", 1), create(s.zxid-1, "/n", 2), remove(0, "/a", 3), create(-5, "/o", 4), remove(math.MinInt, "/a/b", 5)}
	behind := []api.Entry{
		create(s.zxid+5, "/k", 6),
		create(s.zxid+1, "/k", 7), // it does not rise, but is above the snapshot's zxid
		{Zxid: s.zxid + 3, Txn: api.Txn{Kind: api.TxnError, Err: api.ErrTreeAuth}},
		create(math.MaxInt, "/k/l", 8),
		{Zxid: s.zxid + 2, Txn: api.Txn{Kind: api.TxnClose, Owner: 300, Subs: []api.Txn{{Kind: api.TxnDelete, Path: "/a/b", Number: 9}}}},
		{Zxid: s.zxid + 2, Txn: api.Txn{Kind: api.TxnSet, Path: "/none"}},
	}
	var both []api.Entry
	for i := range 6 {
		both = append(both, behind[i])
		if i < len(ahead) {
			both = append(both, ahead[i])
		}
	}
	for i := range 7 {
		want := s.tree()
		for _, e := range behind[:i] {
			want.Apply(e)
		}
		if !restored(t, s.text(), behind[:i]).Same(want) {
			t.Errorf("%d entries behind", i)
		}
		if i < 6 && !restored(t, s.text(), both[:2*i]).Same(want) {
			t.Errorf("%d entries behind, and some ahead", i)
		}
	}
	if !restored(t, s.text(), ahead).Same(s.tree()) {
		t.Error("entries ahead")
	}
	for _, n := range numbers() {
		for _, z := range numbers() {
			s.zxid = n
			want := s.tree()
			if z > n {
				want.Apply(create(z, "/y", 1))
			}
			if !restored(t, s.text(), []api.Entry{create(z, "/y", 1)}).Same(want) {
				t.Errorf("an entry %d on a snapshot of %d", z, n)
			}
		}
	}
}

// TestN4Wrong: no entry makes a text right.
func TestN4Wrong(t *testing.T) {
	l := []api.Entry{create(1<<50, "/", 1), create(1<<50+1, "/a", 1), create(1<<50+2, "/z", 1)}
	for _, s := range []string{"", "\x04TREE", ofNew[:len(ofNew)-1], ofNew + "\x00", "\x04TREE\x00\x00\x00", small().changed(func(s *shot) { s.nodes = s.nodes[1:] }).text(), of([]int{0}).text()} {
		if x, e := snap.Restore(s, l); x != nil || e != api.ErrSnapForm {
			t.Errorf("Restore of %s: %v, %d", brief(s), x, e)
		}
	}
}

// TestN4Mends: a snapshot that lacks the Parent of a node, which came up ahead of the last path when its kid's place was still to come: `-` and `.` are ahead of `/`.
func TestN4Mends(t *testing.T) {
	for _, last := range []string{"/a-", "/a.b", "/a-/x", "/a./b"} {
		x := tree.New()
		x.Apply(create(1, last[:3], 1))
		x.Apply(create(2, last, 1))
		p := newPair(t, x)
		p.step(len(x.Paths()))
		l := []api.Entry{create(3, "/a", 3), create(4, "/a/k", 1), create(5, "/a/k/l", 1)}
		for _, e := range l {
			p.apply(e)
		}
		p.step(3)
		got, right := parsed(p.f.Text())
		if !right || got.whole() {
			t.Errorf("behind %s: %+v", last, got)
		}
		decodes(t, p.f.Text())
		if !restored(t, p.f.Text(), l).Same(x) || restored(t, p.f.Text(), nil).Same(x) {
			t.Errorf("behind %s: not the tree", last)
		}
		p.apply(remove(6, "/a/k/l", 2))
		p.apply(remove(7, "/a/k", 2))
		p.apply(remove(8, "/a", 4))
		l = append(l, remove(6, "/a/k/l", 2), remove(7, "/a/k", 2), remove(8, "/a", 4))
		if !restored(t, p.f.Text(), l).Same(x) {
			t.Errorf("behind %s: not the tree, when all is gone", last)
		}
	}
}

var places = []string{"/a", "/b", "/c", "/a-", "/a.b", "/b-", "/b.c", "/a/b-", "/a/b.x", "/a/b", "/a/c", "/a/b/c", "/b/a", "/b/a/x", "/b/a/x/y", "/c/z", "/c/z/d/e/f/g"}

// anyTxn is a transaction of any kind.
func anyTxn(r *rand.Rand, deep int) api.Txn {
	from := append(places[:len(places):len(places)], "/", "/c/z/d", "", "//")
	x := api.Txn{Kind: r.Intn(11) - 1, Path: from[r.Intn(len(from))], Data: strings.Repeat("x", r.Intn(4)), Owner: r.Intn(5) - 1, Number: r.Intn(40) - 5, Err: api.Errno(r.Intn(70))}
	if r.Intn(2) == 0 {
		x.Kind = 1 + r.Intn(2)
	}
	for range r.Intn(3) {
		x.Acl = append(x.Acl, api.Acl{Perms: r.Intn(40) - 3, ID: []string{"world", "", "x"}[r.Intn(3)]})
	}
	if deep > 0 {
		for range r.Intn(5) {
			x.Subs = append(x.Subs, anyTxn(r, deep-1))
		}
	}
	return x
}

// isSound: does each part of a transaction find what it needs, when it is done on a copy?
func isSound(x *tree.Tree, txn api.Txn) bool {
	x, parts := x.Clone(), []api.Txn{txn}
	if txn.Kind == api.TxnClose || txn.Kind == api.TxnMulti {
		parts = txn.Subs
	}
	for _, part := range parts {
		s, is := x.Stat(part.Path)
		_, up := x.Stat(path.Parent(part.Path))
		switch {
		case txn.Kind == api.TxnClose && part.Kind != api.TxnDelete:
			continue // it is not done
		case part.Kind == api.TxnCreate && (is || !up || path.Check(part.Path) != api.OK):
			return false
		case part.Kind == api.TxnDelete && (!is || s.Kids > 0 || part.Path == "/"):
			return false
		case (part.Kind == api.TxnSet || part.Kind == api.TxnAcl) && !is:
			return false
		}
		x.Apply(api.Entry{Txn: part})
	}
	return true
}

func anySound(r *rand.Rand, x *tree.Tree) api.Entry {
	for {
		if txn := anyTxn(r, 1); isSound(x, txn) {
			return api.Entry{Zxid: x.Zxid() + 1 + r.Intn(3), Session: 3, Xid: 4, Txn: txn}
		}
	}
}

// TestN5SoundHistories: snapshots begun and gone on with anywhere in a sound history, restored with all of it, or with what is behind their beginning.
func TestN5SoundHistories(t *testing.T) {
	r := rand.New(rand.NewSource(3))
	kinds, fuzzy, ragged := map[int]int{}, 0, 0
	for round := range 2000 {
		x, l := tree.New(), []api.Entry{}
		goOn := func() {
			e := anySound(r, x)
			kinds[e.Txn.Kind]++
			x.Apply(e)
			l = append(l, e)
		}
		for range r.Intn(40) {
			goOn()
		}
		p, from, pace := newPair(t, x), len(l), 1+round%4
		for all := false; !all; {
			for range r.Intn(2 * pace) {
				goOn()
			}
			all = p.step(r.Intn(3))
		}
		for range r.Intn(5) {
			goOn()
		}
		s := p.f.Text()
		for _, k := range []int{0, from / 2, from} {
			if !restored(t, s, l[k:]).Same(x) {
				t.Fatalf("of the entries from %d on: not the tree", k)
			}
		}
		if s != snap.Encode(x) {
			fuzzy++
		}
		if _, e := snap.Decode(s); e != api.OK {
			ragged++
		}
		decodes(t, s)
		decodes(t, snap.Encode(x))
	}
	for kind := 1; kind <= 8; kind++ {
		if kinds[kind] < 300 {
			t.Errorf("only %v of each kind", kinds)
		}
	}
	if fuzzy < 1000 || ragged < 10 {
		t.Errorf("%d fuzzy, %d ragged", fuzzy, ragged)
	}
}

// TestR3NothingIsKept: who handed entries in may write into them; they are not written into, nor what stands behind them.
func TestR3NothingIsKept(t *testing.T) {
	rows := append(slices.Clone(some), api.Acl{Perms: 9, ID: "behind"})
	parts := []api.Txn{{Kind: api.TxnCreate, Path: "/m", Acl: rows[:2]}, {Kind: api.TxnAcl, Path: "/a", Acl: rows[:1]}, {Kind: api.TxnDelete, Path: "/m"}}
	l := []api.Entry{{Zxid: 1 << 50, Txn: api.Txn{Kind: api.TxnMulti, Acl: rows[:2], Subs: parts[:2]}}, create(1<<51, "/n", 1), create(1<<52, "/behind", 1)}
	x := restored(t, small().text(), l[:2])
	y := restored(t, small().text(), l[:2])
	if !slices.Equal(rows[:2], some) || rows[2].ID != "behind" || parts[2].Path != "/m" || l[2].Txn.Path != "/behind" || l[0].Zxid != 1<<50 || l[1].Txn.Path != "/n" {
		t.Error("what was handed in was written into")
	}
	clear(rows)
	clear(parts)
	clear(l)
	if !x.Same(y) || !slices.Equal(x.Paths(), []string{"/", "/a", "/a/b", "/m", "/n"}) {
		t.Errorf("%q", x.Paths())
	}
	if got, _ := x.Acl("/m"); !slices.Equal(got, some) {
		t.Errorf("Acl: %v", got)
	}
}

// TestR4Apart: trees of one text know nothing of one another, nor a tree of the one that it was encoded of.
func TestR4Apart(t *testing.T) {
	x := grown()
	s := snap.Encode(x)
	y, _ := snap.Decode(s)
	z, _ := snap.Decode(s)
	w := restored(t, s, nil)
	p := newPair(t, x)
	p.step(100)
	x.Lay("/", "x", nil, full)
	y.Lay("/a", "y", nil, full)
	z.LaySession(1, 1, "z")
	for name, got := range map[string]string{"x": snap.Encode(x), "y": snap.Encode(y), "z": snap.Encode(z)} {
		if got == s {
			t.Errorf("%s has not changed", name)
		}
	}
	if snap.Encode(w) != s || p.f.Text() != s {
		t.Error("a change of another one was seen")
	}
	for range 20 {
		if v, _ := snap.Decode(s); !v.Same(w) || snap.Encode(v) != s {
			t.Fatal("another answer to the same call")
		}
	}
}
