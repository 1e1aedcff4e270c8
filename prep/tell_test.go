package prep_test

import (
	"math/rand"
	"slices"
	"strings"
	"testing"

	"arboretum/api"
	"arboretum/prep"
	"arboretum/tree"
)

// tells holds what Reply answers to an entry of a transaction, as the test itself says.
func tells(t *testing.T, x *tree.Tree, n api.Txn, want api.Reply) {
	t.Helper()
	want.Xid, want.Zxid = 4, 21
	if got := replies(t, x, api.Entry{Zxid: 21, Session: 7, Xid: 4, Txn: n}); !sameReply(got, want) {
		t.Errorf("Reply(%s): %s, want %s", brief(n), brief(got), brief(want))
	}
}

func statOf(t *testing.T, x *tree.Tree, p string) api.Stat {
	t.Helper()
	s, is := x.Stat(p)
	if !is {
		t.Fatalf("no node of %q", p)
	}
	return s
}

// everything is a transaction in which nothing is zero but what is told.
func everything(kind int, p string) api.Txn {
	return api.Txn{Kind: kind, Path: p, Data: "d", Acl: all(), Owner: 7, Number: 2, Err: 66, Subs: []api.Txn{{Kind: 1, Path: "/v"}}}
}

func TestF3NoTree(t *testing.T) {
	for kind := -1; kind < 12; kind++ {
		if got := replies(t, nil, api.Entry{Zxid: 21, Session: 7, Xid: 4, Txn: everything(kind, "/a")}); !sameReply(got, api.Reply{}) {
			t.Errorf("Reply(nil, kind %d): %s", kind, brief(got))
		}
	}
}

// TestF3Kinds: what is told of each kind, with every path.
func TestF3Kinds(t *testing.T) {
	for _, x := range trees() {
		was := x.Clone()
		for _, p := range texts() {
			s, _ := x.Stat(p)
			tells(t, x, everything(1, p), api.Reply{Path: p, Stat: s})
			tells(t, x, everything(3, p), api.Reply{Stat: s})
			tells(t, x, everything(4, p), api.Reply{Stat: s})
			for _, kind := range append(numbers(), 6, 10, 11) {
				if kind != 1 && kind != 3 && kind != 4 && kind != 7 && kind != 8 {
					tells(t, x, everything(kind, p), api.Reply{})
				}
			}
		}
		if !x.Same(was) {
			t.Fatal("Reply changes the tree")
		}
	}
	x := made()
	tells(t, x, everything(1, "/a"), api.Reply{Path: "/a", Stat: api.Stat{Czxid: 10, Mzxid: 10, Pzxid: 12, Cversion: 3, Length: 1, Kids: 2}})
	tells(t, x, everything(3, "/v"), api.Reply{Stat: api.Stat{Czxid: 14, Mzxid: 15, Pzxid: 16, Version: 3, Cversion: 4, Aversion: 5, Length: 1}})
}

// TestF3Numbers: an entry's own, whatever the tree's are.
func TestF3Numbers(t *testing.T) {
	x := made()
	for kind := range 10 {
		for _, n := range numbers() {
			r := replies(t, x, api.Entry{Zxid: n, Session: n + 1, Xid: n + 2, Txn: everything(kind, "/a")})
			if r.Zxid != n || r.Xid != n+2 {
				t.Errorf("Reply: %s", brief(r))
			}
			for _, sub := range r.Subs {
				if sub.Xid != 0 || sub.Zxid != 0 {
					t.Errorf("Reply: %s", brief(r))
				}
			}
		}
	}
}

// TestF3Multi: a reply for each part, also for such as tell nothing.
func TestF3Multi(t *testing.T) {
	x := made()
	for _, l := range [][]api.Txn{nil, {}} {
		tells(t, x, api.Txn{Kind: 7, Path: "/a", Err: 66, Number: 2, Subs: l}, api.Reply{})
	}
	subs, want := []api.Txn{}, []api.Reply{}
	for _, kind := range append(numbers(), 6, 10) {
		for _, p := range []string{"/a", "/none", "/v", ""} {
			s, _ := x.Stat(p)
			subs = append(subs, everything(kind, p))
			switch kind {
			case 1:
				want = append(want, api.Reply{Path: p, Stat: s})
			case 3, 4:
				want = append(want, api.Reply{Stat: s})
			default:
				want = append(want, api.Reply{})
			}
		}
	}
	tells(t, x, api.Txn{Kind: 7, Path: "/a", Data: "d", Acl: all(), Owner: 7, Number: 2, Err: 66, Subs: subs}, api.Reply{Subs: want})
	for i := range subs {
		tells(t, x, api.Txn{Kind: 7, Subs: subs[i : i+1]}, api.Reply{Subs: want[i : i+1]})
	}
}

// TestF3Error: of a part 0 to 7, those ahead of it, and it.
func TestF3Error(t *testing.T) {
	x := made()
	for _, n := range append(numbers(), 6, 10, -1) {
		for _, e := range append(numbers(), 110, 111) {
			want := api.Reply{Err: api.Errno(e)}
			if n >= 0 && n < 8 {
				want.Subs = append(slices.Repeat([]api.Reply{{Err: 111}}, n), api.Reply{Err: api.Errno(e)})
			}
			r := everything(8, "/a")
			r.Number, r.Err = n, api.Errno(e)
			tells(t, x, r, want)
		}
	}
}

// readOf holds what Read answers, as the test itself says.
func readOf(t *testing.T, x *tree.Tree, ids []string, r api.Request, want api.Reply) {
	t.Helper()
	want.Xid, want.Zxid = r.Xid, x.Zxid()
	if got := reads(t, x, ids, r); !sameReply(got, want) {
		t.Errorf("Read(%q, %s): %s, want %s", ids, brief(r), brief(got), brief(want))
	}
}

func TestF4NoTree(t *testing.T) {
	for _, kind := range append(numbers(), 10, 11, 12) {
		for _, p := range texts() {
			if got := reads(t, nil, []string{ann}, api.Request{Kind: kind, Xid: 5, Path: p}); !sameReply(got, api.Reply{}) {
				t.Errorf("Read(nil, kind %d): %s", kind, brief(got))
			}
		}
	}
}

func TestF4Reads(t *testing.T) {
	x := made()
	for _, xid := range numbers() {
		a, e := statOf(t, x, "/a"), statOf(t, x, "/a/e")
		for _, r := range []api.Request{{}, {Data: strings.Repeat("d", 101), Acl: rows(0, ""), Flags: 9, Version: 7, Watch: true, Subs: make([]api.Request, 9), Armed: make([]api.Armed, 3)}} {
			of := func(kind int, p string) api.Request {
				q := r
				q.Kind, q.Path, q.Xid = kind, p, xid
				return q
			}
			readOf(t, x, nil, of(9, "/a"), api.Reply{Data: "x", Stat: a})
			readOf(t, x, nil, of(10, "/a"), api.Reply{Stat: a})
			readOf(t, x, nil, of(11, "/a"), api.Reply{Stat: a, Kids: []string{"e", "k"}})
			readOf(t, x, nil, of(12, "/a"), api.Reply{Stat: a, Acl: []api.Acl{{Perms: 1, ID: "world"}, {Perms: 30, ID: ann}}})
			readOf(t, x, nil, of(9, "/a/e"), api.Reply{Stat: e})
			readOf(t, x, nil, of(11, "/a/e"), api.Reply{Stat: e})
			readOf(t, x, nil, of(12, "/a/e"), api.Reply{Stat: e, Acl: all()})
			readOf(t, x, nil, of(11, "/"), api.Reply{Stat: statOf(t, x, "/"), Kids: []string{"a", "r", "v"}})
		}
	}
}

// TestF4Errors: in their order, and no other thing with them but the numbers.
func TestF4Errors(t *testing.T) {
	x := made()
	for _, p := range wrong() {
		e := api.ErrPathForm
		if strings.HasPrefix(p, "/a/b/c") || strings.HasPrefix(p, "/xxx") || strings.HasPrefix(p, "/a/a/a") {
			e = api.ErrPathLong
		}
		for kind := 9; kind <= 12; kind++ {
			readOf(t, x, nil, api.Request{Kind: kind, Xid: 3, Path: p}, api.Reply{Err: e})
		}
	}
	for _, p := range []string{"/none", "/a/none", "/o", "/a/e/f"} {
		for kind := 9; kind <= 12; kind++ {
			readOf(t, x, nil, api.Request{Kind: kind, Xid: 3, Path: p}, api.Reply{Err: api.ErrTreeNone})
		}
	}
	for _, ids := range someIDs() {
		for kind := 9; kind <= 12; kind++ {
			if kind == 10 || slices.Contains(ids, bob) {
				readOf(t, x, ids, api.Request{Kind: kind, Xid: 3, Path: "/a/k"}, modelRead(x, []string{bob}, api.Request{Kind: kind, Path: "/a/k"}))
			} else {
				readOf(t, x, ids, api.Request{Kind: kind, Xid: 3, Path: "/a/k"}, api.Reply{Err: api.ErrTreeAuth})
			}
		}
	}
	for _, kind := range append(numbers(), 6, 13, 14, 15, 16) {
		if kind >= 9 && kind <= 12 {
			continue
		}
		for _, p := range texts() {
			readOf(t, x, []string{ann, bob}, api.Request{Kind: kind, Xid: 3, Path: p}, api.Reply{Err: api.ErrPrepKind})
		}
	}
}

// TestF4Permissions: to read, and no other.
func TestF4Permissions(t *testing.T) {
	for perms := range 32 {
		for _, id := range []string{ann, "world"} {
			x := made()
			x.Lay("/v", "z", rows(perms, id), api.Stat{})
			for _, ids := range someIDs() {
				may := perms%2 == 1 && (id == "world" || slices.Contains(ids, ann))
				for kind := 9; kind <= 12; kind++ {
					got := reads(t, x, ids, api.Request{Kind: kind, Path: "/v"})
					if (got.Err == api.OK) != (may || kind == 10) || got.Err != api.OK && got.Err != api.ErrTreeAuth {
						t.Errorf("kind %d of perms %d %s, ids %q: %s", kind, perms, id, ids, brief(got))
					}
				}
			}
		}
	}
}

// TestF4Any: every path of every tree, by whom it may be.
func TestF4Any(t *testing.T) {
	for _, x := range trees() {
		was := x.Clone()
		for _, p := range append(texts(), x.Paths()...) {
			for kind := -1; kind < 20; kind++ {
				for _, ids := range someIDs() {
					reads(t, x, ids, api.Request{Kind: kind, Xid: kind * 3, Path: p, Watch: true})
				}
			}
		}
		if !x.Same(was) {
			t.Fatal("Read changes the tree")
		}
	}
}

// spoil writes into a list and its spare room, and grows it.
func spoil[T any](l []T, by T) {
	l = l[:cap(l)]
	for i := range l {
		l[i] = by
	}
	_ = append(l, by)
}

func spoilTxn(x api.Txn) {
	for _, sub := range x.Subs {
		spoilTxn(sub)
	}
	spoil(x.Acl, api.Acl{Perms: 9, ID: "spoilt"})
	spoil(x.Subs, api.Txn{Kind: 99})
}

func spoilReply(r api.Reply) {
	for _, sub := range r.Subs {
		spoilReply(sub)
	}
	spoil(r.Acl, api.Acl{Perms: 9, ID: "spoilt"})
	spoil(r.Kids, "spoilt")
	spoil(r.Subs, api.Reply{Err: 99})
}

// given is what is handed in, with more behind each length.
func given() (api.Request, []string, []api.Acl, []api.Request) {
	l := []api.Acl{{Perms: 31, ID: "world"}, {Perms: 1, ID: ann}, {Perms: 5, ID: "behind"}}
	ids := []string{ann, bob, "behind"}
	subs := []api.Request{{Kind: 1, Path: "/n", Acl: l[:2]}, {Kind: 4, Path: "/v", Acl: l[:2], Version: -1}, {Kind: 1, Path: "/m", Acl: l[:2], Flags: 3}, {Kind: 99, Path: "behind"}}
	return api.Request{Path: "/n", Acl: l[:2], Version: -1, Subs: subs[:3]}, ids, l, subs
}

// TestR3NothingIsWritten: neither what is handed in nor what stands behind its length, nor the tree.
func TestR3NothingIsWritten(t *testing.T) {
	x := made()
	was := x.Clone()
	for kind := range 17 {
		for _, p := range []string{"/n", "/v", "/a/k", "/a"} {
			r, ids, l, subs := given()
			r.Kind, r.Path = kind, p
			y := prep.Txn(x, 7, ids[:2], r)
			prep.Read(x, ids[:2], r)
			n := api.Txn{Kind: kind, Path: p, Acl: l[:2], Subs: []api.Txn{{Kind: 1, Path: "/v", Acl: l[:2]}, {Kind: 99}}[:1]}
			prep.Reply(x, api.Entry{Txn: n})
			spoilTxn(y)
			_, ids2, l2, subs2 := given()
			if !slices.Equal(ids, ids2) || !slices.Equal(l, l2) {
				t.Errorf("kind %d: ids %q, rows %v", kind, ids, l)
			}
			for i := range subs {
				if brief(subs[i]) != brief(subs2[i]) {
					t.Errorf("kind %d: a part was written into: %s", kind, brief(subs[i]))
				}
			}
			if !x.Same(was) {
				t.Fatalf("kind %d: the tree was changed", kind)
			}
		}
	}
}

// TestR3NothingIsKept: who handed something in may write into it.
func TestR3NothingIsKept(t *testing.T) {
	for kind := range 9 {
		for _, p := range []string{"/n", "/v"} {
			x := made()
			r, ids, l, subs := given()
			r.Kind, r.Path = kind, p
			want := modelTxn(x, 7, ids[:2], r)
			want.Acl = slices.Clone(want.Acl)
			for i := range want.Subs {
				want.Subs[i].Acl = slices.Clone(want.Subs[i].Acl)
			}
			got := prep.Txn(x, 7, ids[:2], r)
			clear(l)
			clear(ids)
			clear(subs)
			x.Apply(api.Entry{Zxid: 30, Txn: api.Txn{Kind: 2, Path: "/v", Number: 1}})
			if !sameTxn(got, want) {
				t.Errorf("kind %d: %s, want %s", kind, brief(got), brief(want))
			}
		}
	}
}

// TestR3NewMemory: who got an answer may write into it, and no other answer, and no list of the same, is changed.
func TestR3NewMemory(t *testing.T) {
	x := made()
	was := x.Clone()
	for range 3 {
		for kind := range 17 {
			for _, p := range []string{"/n", "/v", "/a", "/"} {
				r, ids, _, _ := given()
				r.Kind, r.Path = kind, p
				y, z := asks(t, x, 7, ids[:2], r), asks(t, x, 7, ids[:2], r)
				if len(y.Subs) > 0 {
					spoil(y.Subs[0].Acl, api.Acl{Perms: 9, ID: "spoilt"})
					for i := 1; i < len(y.Subs); i++ {
						if !sameTxn(y.Subs[i], z.Subs[i]) {
							t.Errorf("kind %d: two lists of one answer are one", kind)
						}
					}
				}
				spoilTxn(y)
				if !sameTxn(z, modelTxn(x, 7, ids[:2], r)) {
					t.Errorf("kind %d: another answer was changed: %s", kind, brief(z))
				}
				q, s := reads(t, x, ids[:2], r), reads(t, x, ids[:2], r)
				spoilReply(q)
				if !sameReply(s, modelRead(x, ids[:2], r)) {
					t.Errorf("kind %d: another answer was changed: %s", kind, brief(s))
				}
				e := api.Entry{Zxid: 21, Txn: everything(kind, p)}
				q, s = replies(t, x, e), replies(t, x, e)
				spoilReply(q)
				if !sameReply(s, modelReply(x, e)) {
					t.Errorf("kind %d: another answer was changed: %s", kind, brief(s))
				}
			}
		}
	}
	if !x.Same(was) {
		t.Error("the tree was changed")
	}
}

// TestR4OneState: an answer hangs on no call ahead of it.
func TestR4OneState(t *testing.T) {
	r := rand.New(rand.NewSource(5))
	x, y := made(), made()
	for range 3000 {
		q := anyRequest(r, 2)
		for range r.Intn(3) {
			prep.Txn(y, 7, nil, anyRequest(r, 2))
			prep.Read(y, nil, anyRequest(r, 0))
		}
		n, m := prep.Txn(x, 7, nil, q), prep.Txn(y, 7, nil, q)
		if !sameTxn(n, m) {
			t.Fatalf("Txn(%s): %s and %s", brief(q), brief(n), brief(m))
		}
		e := api.Entry{Zxid: x.Zxid() + 1, Txn: n}
		if r.Intn(4) > 0 {
			x.Apply(e)
			y.Apply(e)
		}
		if a, b := prep.Reply(x, e), prep.Reply(y, e); !sameReply(a, b) {
			t.Fatalf("Reply(%s): %s and %s", brief(e), brief(a), brief(b))
		}
	}
}
