package plain_test

import (
	"fmt"
	"strings"
	"testing"

	"arboretum/acl"
	"arboretum/api"
)

func TestExamples(t *testing.T) {
	p := newPair(t, 0)
	if s := p.open(10); s != 1 {
		t.Errorf("Open: %d", s)
	}
	if r := p.does(1, create("/a", "")); r.Zxid != 1<<32+2 || r.Xid != 7 || r.Path != "/a" {
		t.Errorf("create: %s", brief(r))
	}
	p.errs(1, watched(api.ReqExists, "/b"), api.ErrTreeNone)
	p.does(1, create("/b", ""))
	p.tells(1, event(api.EventCreated, "/b", 3))
	if e := p.expire(1); e != api.OK {
		t.Errorf("Expire: %d", e)
	}
	if r, e := p.x.Call(1, create("/c", "")); e != api.ErrTreeGone || !sameReply(r, api.Reply{}) {
		t.Errorf("behind its end: %s, %d", brief(r), e)
	}
}

// TestExamplesOfTheWhole: those of the document that are of one service.
func TestExamplesOfTheWhole(t *testing.T) {
	p := newPair(t, 2)
	p.does(1, owned("/a"))
	p.does(2, watched(api.ReqGet, "/a"))
	p.expire(1)
	p.ordered(1, 0, api.Txn{Kind: 6, Owner: 1, Subs: []api.Txn{{Kind: 2, Path: "/a", Number: 2}}})
	p.tells(2, event(api.EventDeleted, "/a", 4))
	p.does(2, create("/a", "x"))
	p.nothing(2, api.Request{Kind: api.ReqSet, Path: "/a", Data: "y", Version: 5, Xid: 3}, api.ErrTreeStale)
	p.ordered(2, 3, api.Txn{Kind: 8, Err: 66, Number: -1})
	if r := p.does(2, api.Request{Kind: api.ReqGet, Path: "/a"}); r.Data != "x" || r.Stat.Version != 0 || r.Zxid != 1<<32+6 {
		t.Errorf("behind a refusal: %s", brief(r))
	}
}

func TestQ1New(t *testing.T) {
	p := newPair(t, 0)
	if l := p.order(); len(l) != 0 {
		t.Errorf("Order: %s", brief(l))
	}
	for _, id := range numbers() {
		p.expire(id)
		p.tells(id)
		if r, e := p.x.Call(id, create("/a", "")); e != api.ErrTreeGone || !sameReply(r, api.Reply{}) {
			t.Errorf("a call of the session %d: %s, %d", id, brief(r), e)
		}
	}
	if l := p.order(); len(l) != 0 {
		t.Errorf("Order: %s", brief(l))
	}
	p.open(10)
	if r := p.does(1, api.Request{Kind: api.ReqKids, Path: "/"}); r.Stat != (api.Stat{}) || len(r.Kids) != 0 || r.Zxid != 1<<32+1 {
		t.Errorf("the root: %s", brief(r))
	}
	if r := p.does(1, api.Request{Kind: api.ReqGetAcl, Path: "/"}); len(r.Acl) != 1 || r.Acl[0] != all()[0] {
		t.Errorf("the root's ACL: %s", brief(r))
	}
}

// TestQ1Order: an entry of each kind, whole.
func TestQ1Order(t *testing.T) {
	p := newPair(t, 2)
	p.ordered(2, 0, api.Txn{Kind: 5, Owner: 2, Number: 10})
	r := create("/a-", "x")
	r.Flags = 2
	p.does(1, r)
	p.ordered(1, 7, api.Txn{Kind: 1, Path: "/a-0000000000", Data: "x", Acl: all(), Number: 1})
	p.does(2, set("/a-0000000000", "y"))
	p.ordered(2, 8, api.Txn{Kind: 3, Path: "/a-0000000000", Data: "y", Number: 1})
	p.does(1, api.Request{Kind: 4, Xid: -5, Path: "/a-0000000000", Acl: append(all(), rows(3, ann)...), Version: 0})
	p.ordered(1, -5, api.Txn{Kind: 4, Path: "/a-0000000000", Acl: append(all(), rows(3, ann)...), Number: 1})
	p.does(1, owned("/e"))
	p.ordered(1, 7, api.Txn{Kind: 1, Path: "/e", Acl: all(), Owner: 1, Number: 2})
	p.does(2, remove("/a-0000000000"))
	p.ordered(2, 9, api.Txn{Kind: 2, Path: "/a-0000000000", Number: 3})
	p.does(2, api.Request{Kind: 7, Xid: 1 << 62})
	p.ordered(2, 1<<62, api.Txn{})
	p.does(2, api.Request{Kind: 6, Xid: 4, Subs: []api.Request{create("/m", "z"), set("/m", "zz"), {Kind: 5, Path: "/m", Version: 1}}})
	p.ordered(2, 4, api.Txn{Kind: 7, Subs: []api.Txn{{Kind: 1, Path: "/m", Data: "z", Acl: all(), Number: 4}, {Kind: 3, Path: "/m", Data: "zz", Number: 1}, {}}})
	p.errs(2, api.Request{Kind: 6, Xid: 5, Subs: []api.Request{create("/n", ""), create("/m", "")}}, api.ErrTreeThere)
	p.ordered(2, 5, api.Txn{Kind: 8, Err: 61, Number: 1})
	p.errs(2, api.Request{Kind: 6}, api.ErrArg)
	p.ordered(2, 0, api.Txn{Kind: 8, Err: 1, Number: -1})
	p.does(1, api.Request{Kind: 8, Xid: 6})
	p.ordered(1, 6, api.Txn{Kind: 6, Owner: 1, Subs: []api.Txn{{Kind: 2, Path: "/e", Number: 5}}})
	p.expire(2)
	p.ordered(2, 0, api.Txn{Kind: 6, Owner: 2})
	if l := p.order(); len(l) != 13 {
		t.Errorf("%d entries", len(l))
	}
}

func TestQ2Timeouts(t *testing.T) {
	for _, timeout := range numbers() {
		p := newPair(t, 0)
		if s := p.open(timeout); s != 1 {
			t.Errorf("Open(%d): %d", timeout, s)
		}
		want := timeout
		if timeout < 4 {
			want = 4
		} else if timeout > 60 {
			want = 60
		}
		p.ordered(1, 0, api.Txn{Kind: 5, Owner: 1, Number: want})
	}
}

// TestQ2Full: a 17th session is none, and is not counted.
func TestQ2Full(t *testing.T) {
	p := newPair(t, 0)
	for i := 1; i <= 16; i++ {
		if s := p.open(10); s != i {
			t.Errorf("the session %d: %d", i, s)
		}
	}
	p.unchanged(func() {
		for range 3 {
			if s, e := p.x.Open(10); s != 0 || e != api.ErrSessionFull {
				t.Errorf("a 17th session: %d, %d", s, e)
			}
		}
	})
	p.expire(5)
	if s := p.open(10); s != 17 {
		t.Errorf("in the place of one: %d", s)
	}
	p.open(10)
	p.does(17, api.Request{Kind: 8})
	p.does(1, api.Request{Kind: 8})
	for i := 18; i <= 19; i++ {
		if s := p.open(10); s != i {
			t.Errorf("in the place of one: %d, want %d", s, i)
		}
	}
	p.open(10)
	p.order()
}

func TestQ2Expire(t *testing.T) {
	p := newPair(t, 3)
	p.unchanged(func() {
		for _, id := range append(numbers(), 4, 1<<32+2) {
			if id < 1 || id > 3 {
				if e := p.expire(id); e != api.ErrTreeGone {
					t.Errorf("Expire(%d): %d", id, e)
				}
			}
		}
	})
	// Nobody is asked whether the session may: neither its IDs nor the nodes' ACLs.
	p.does(1, create("/d", ""))
	for _, at := range []string{"/d/z", "/a", "/d/b"} {
		r := owned(at)
		r.Acl = rows(1, ann)
		p.does(2, r)
	}
	p.does(3, owned("/d/c"))
	p.does(1, api.Request{Kind: 4, Path: "/d", Acl: rows(1, "world"), Version: -1})
	p.does(2, auth("ann", "x"))
	p.expire(2)
	p.ordered(2, 0, api.Txn{Kind: 6, Owner: 2, Subs: []api.Txn{{Kind: 2, Path: "/d/z", Number: 4}, {Kind: 2, Path: "/d/b", Number: 5}, {Kind: 2, Path: "/a", Number: 3}}})
	if r := p.does(1, api.Request{Kind: api.ReqKids, Path: "/d"}); len(r.Kids) != 1 || r.Kids[0] != "c" {
		t.Errorf("left: %s", brief(r))
	}
	p.unchanged(func() {
		if e := p.expire(2); e != api.ErrTreeGone {
			t.Errorf("again: %d", e)
		}
	})
}

// TestQ2EndOfAll: what a session has goes with it, and its number never comes again.
func TestQ2EndOfAll(t *testing.T) {
	for _, end := range []func(p pair){
		func(p pair) { p.expire(1) },
		func(p pair) { p.does(1, api.Request{Kind: 8}) },
	} {
		p := newPair(t, 2)
		r := create("/a", "secret")
		r.Acl = append(rows(31, ann), rows(14, "world")...)
		p.does(2, r)
		p.does(1, auth("ann", "x"))
		for kind := 9; kind <= 11; kind++ {
			p.does(1, watched(kind, "/a"))
			p.does(1, watched(kind, "/"))
		}
		p.errs(1, watched(10, "/b"), api.ErrTreeNone)
		p.does(2, watched(10, "/a"))
		p.does(2, create("/b", ""))
		p.does(1, owned("/e"))
		end(p)
		p.tells(1)
		for _, q := range []api.Request{set("/a", "y"), create("/a/k", ""), remove("/b"), remove("/a/k"), remove("/a"), create("/b", "")} {
			p.does(2, q)
		}
		p.tells(1)
		p.tells(2, event(api.EventData, "/a", 7))
		for kind := range 17 {
			if r, e := p.x.Call(1, api.Request{Kind: kind, Xid: 3, Path: "/b", Watch: true, Acl: all(), Version: -1}); e != api.ErrTreeGone || !sameReply(r, api.Reply{}) {
				t.Errorf("kind %d: %s, %d", kind, brief(r), e)
			}
		}
		p.does(2, auth("ann", "x"))
		p.does(2, r)
		if s := p.open(10); s != 3 {
			t.Errorf("the next one: %d", s)
		}
		p.errs(3, api.Request{Kind: 9, Path: "/a"}, api.ErrTreeAuth)
		p.order()
	}
}

// TestQ3Gone: of no session every request is answered so, and does nothing.
func TestQ3Gone(t *testing.T) {
	p := newPair(t, 3)
	p.expire(2)
	p.does(1, watched(11, "/"))
	p.unchanged(func() {
		for _, id := range append(numbers(), -3) {
			if id == 1 || id == 3 {
				continue
			}
			for _, kind := range append(numbers(), 6, 7, 8, 9, 10, 11, 12, 13, 14) {
				r := api.Request{Kind: kind, Xid: 5, Path: "/a", Data: "x", Acl: all(), Watch: true, Subs: []api.Request{create("/a", "")}, Armed: []api.Armed{{Kind: 1, Path: "/q", Czxid: 1}}}
				if got, e := p.x.Call(id, r); e != api.ErrTreeGone || !sameReply(got, api.Reply{}) {
					t.Errorf("session %d, kind %d: %s, %d", id, kind, brief(got), e)
				}
				p.tells(id)
			}
		}
	})
	p.tells(1)
}

// TestQ3Changes: each is ordered, done or refused, and its reply tells of the tree that comes of it.
func TestQ3Changes(t *testing.T) {
	p := newPair(t, 1)
	if r := p.does(1, create("/a", "abc")); r.Path != "/a" || r.Stat != (api.Stat{Czxid: 1<<32 + 2, Mzxid: 1<<32 + 2, Pzxid: 1<<32 + 2, Length: 3}) {
		t.Errorf("create: %s", brief(r))
	}
	if r := p.does(1, set("/a", "ab")); r.Stat.Version != 1 || r.Stat.Mzxid != 1<<32+3 || r.Stat.Length != 2 {
		t.Errorf("set: %s", brief(r))
	}
	if r := p.does(1, api.Request{Kind: 4, Path: "/a", Acl: all(), Version: 0}); r.Stat.Aversion != 1 || r.Zxid != 1<<32+4 {
		t.Errorf("setacl: %s", brief(r))
	}
	r := p.errs(1, api.Request{Kind: 6, Xid: 3, Subs: []api.Request{create("/b", ""), remove("/q"), create("/c", "")}}, api.ErrTreeNone)
	if len(r.Subs) != 2 || r.Subs[0].Err != api.ErrPrepMulti || r.Subs[1].Err != api.ErrTreeNone {
		t.Errorf("a multi that is refused: %s", brief(r))
	}
	r = p.does(1, api.Request{Kind: 6, Xid: 3, Subs: []api.Request{create("/b", "z"), remove("/a")}})
	if len(r.Subs) != 2 || r.Subs[0].Path != "/b" || r.Subs[0].Stat.Czxid != 1<<32+6 || r.Zxid != 1<<32+6 {
		t.Errorf("a multi: %s", brief(r))
	}
	p.nothing(1, remove("/a"), api.ErrTreeNone)
	p.nothing(1, api.Request{Kind: 7, Xid: -1}, api.OK)
	p.nothing(1, remove("/b"), api.OK)
	for _, q := range []api.Request{create("a", ""), create("/", ""), create("/a/b", ""), set("/", strings.Repeat("x", 101)), {Kind: 6}, {Kind: 4, Path: "/"}, {Kind: 2, Path: "/"}, create("/"+strings.Repeat("x", 60), "")} {
		p.unrefused(q)
	}
	if n := len(p.order()); n != 17 {
		t.Errorf("%d entries", n)
	}
}

// unrefused holds that a request is refused, is in the order as a refusal, and changes nothing besides.
func (p pair) unrefused(q api.Request) {
	p.t.Helper()
	now := p.m.now()
	n := len(p.order())
	if r := p.call(1, q); r.Err == api.OK || r.Zxid != 1<<32+n+1 || r.Xid != q.Xid {
		p.t.Errorf("%s: %s", brief(q), brief(r))
	}
	p.ordered(1, q.Xid, api.Txn{Kind: 8, Err: p.x.Order()[n].Txn.Err, Number: -1})
	now.LayZxid(1<<32 + n + 1)
	if !now.Same(p.m.now()) {
		p.t.Errorf("%s changes something", brief(q))
	}
}

// TestQ3CheckAlone: what is a part of a multi alone is no change, and nothing that is read: it is not ordered.
func TestQ3CheckAlone(t *testing.T) {
	p := newPair(t, 1)
	p.unchanged(func() {
		for _, kind := range append(numbers()[:5], 5, 16, 17, 100, 1<<32+1, 1<<32+9) {
			p.nothing(1, api.Request{Kind: kind, Xid: 4, Path: "/", Watch: true, Version: -1}, api.ErrPrepKind)
		}
	})
	p.does(1, create("/a", ""))
	p.tells(1)
}

// TestQ3IDs: a session's IDs are asked of what it changes and reads; no other one's are.
func TestQ3IDs(t *testing.T) {
	p := newPair(t, 2)
	r := create("/a", "x")
	r.Acl = rows(31, ann)
	p.does(1, r)
	asks := []api.Request{{Kind: 9, Path: "/a"}, {Kind: 11, Path: "/a"}, {Kind: 12, Path: "/a"}, create("/a/k", ""), set("/a", "y"), {Kind: 4, Path: "/a", Acl: rows(31, ann), Version: -1}, remove("/a/k"), {Kind: 6, Subs: []api.Request{set("/a", "z")}}}
	for _, q := range asks {
		if q.Kind != 2 {
			p.errs(1, q, api.ErrTreeAuth)
		}
	}
	p.does(1, auth("ann", "y"))
	p.errs(1, asks[0], api.ErrTreeAuth)
	n := len(p.order())
	p.nothing(2, auth("ann", "x"), api.OK)
	if is := len(p.order()); is != n {
		t.Errorf("an ID is ordered: %d entries, then %d", n, is)
	}
	p.errs(1, asks[0], api.ErrTreeAuth)
	for _, q := range asks {
		p.does(2, q)
	}
	p.errs(1, asks[0], api.ErrTreeAuth)
	p.nothing(1, auth("ann", "x"), api.OK)
	for _, q := range asks {
		p.does(1, q)
	}
	p.order()
}

func TestQ3Auth(t *testing.T) {
	p := newPair(t, 2)
	wrongNames := []string{"", "Ann", "a b", "ä", "a:b", strings.Repeat("a", 13), strings.Repeat("a", 1<<16), "world "}
	for _, name := range wrongNames {
		p.nothing(1, auth(name, "x"), api.ErrAclForm)
	}
	secret := func(i int) string { return fmt.Sprint("s", i) }
	for i := range 20 { // a node of each ID
		id, _ := acl.Digest("ann", secret(i))
		r := create(fmt.Sprintf("/n%d", i), "")
		r.Acl = rows(1, id)
		p.does(2, r)
	}
	sees := func(session, n int) {
		t.Helper()
		for i := range 20 {
			want := api.OK
			if i >= n {
				want = api.ErrTreeAuth
			}
			p.errs(session, api.Request{Kind: 9, Path: fmt.Sprintf("/n%d", i)}, want)
		}
	}
	for i := range 16 {
		sees(1, i)
		p.nothing(1, auth("ann", secret(i)), api.OK)
		p.nothing(1, auth("ann", secret(i/2)), api.OK) // it is there already
	}
	sees(1, 16)
	for i := range 20 {
		want := api.OK
		if i >= 16 {
			want = api.ErrArg
		}
		p.nothing(1, auth("ann", secret(i)), want)
		p.nothing(1, auth("Ann", secret(i)), api.ErrAclForm)
	}
	sees(1, 16)
	sees(2, 0)
	p.nothing(2, auth("ann", secret(0)), api.OK)
	sees(2, 1)
	if n := len(p.order()); n != 22 {
		t.Errorf("%d entries", n)
	}
}

// TestQ3Arm: what it tells is behind what was not told yet.
func TestQ3Arm(t *testing.T) {
	p := newPair(t, 2)
	p.does(1, create("/a", ""))   // 3
	p.does(1, create("/b", ""))   // 4
	p.does(1, set("/a", "x"))     // 5
	p.does(1, create("/b/c", "")) // 6
	p.does(2, watched(9, "/a"))
	p.does(1, set("/a", "y")) // 7
	at := func(kind int, p string, c, m, q int) api.Armed {
		return api.Armed{Kind: kind, Path: p, Czxid: 1<<32 + c, Mzxid: 1<<32 + m, Pzxid: 1<<32 + q}
	}
	l := []api.Armed{at(1, "/a", 3, 5, 3), at(3, "/b", 4, 4, 4), at(2, "/b", 0, 0, 0), at(1, "/b", 9, 4, 6), at(1, "/a", 3, 5, 3), at(0, "/a", 3, 5, 3), at(4, "/a", 3, 5, 3), at(1, "a", 3, 5, 3), at(1, "/q", 3, 5, 3)}
	p.unchanged(func() { p.nothing(2, arm(l...), api.OK) })
	want := []api.Event{event(3, "/a", 7), event(4, "/b", 6), event(1, "/b", 4), event(2, "/b", 7), event(2, "/q", 7)}
	p.tells(2, append([]api.Event{event(3, "/a", 7)}, want...)...)
	p.tells(2)
	p.nothing(2, arm(l...), api.OK)
	p.nothing(2, arm(l...), api.OK)
	p.tells(2, append(want, want...)...) // each time anew
	p.tells(1)
	// Of what has not happened there are watches.
	p.nothing(2, arm(at(1, "/a", 3, 7, 0), at(3, "/b", 4, 0, 6), at(2, "/q", 0, 0, 0)), api.OK)
	p.tells(2)
	p.does(1, create("/q", ""))   // 8
	p.does(1, remove("/b/c"))     // 9
	p.does(1, set("/a", "z"))     // 10
	p.does(1, create("/b/c", "")) // 11
	p.tells(2, event(1, "/q", 8), event(4, "/b", 9), event(3, "/a", 10))
	p.nothing(2, arm(), api.OK)
	p.tells(2)
	p.order()
}

// TestQ3ArmFull: watches for which there is no room are not laid, and that is no error.
func TestQ3ArmFull(t *testing.T) {
	p := newPair(t, 2)
	var l []api.Armed
	for i := range 70 {
		l = append(l, api.Armed{Kind: 2, Path: fmt.Sprintf("/n%02d", i)})
	}
	p.nothing(2, arm(l...), api.OK)
	p.nothing(2, watched(10, "/q"), api.ErrSessionFull)
	for i, a := range l {
		p.does(1, create(a.Path, ""))
		if i < 64 {
			p.tells(2, event(1, a.Path, 2*i+3))
		} else {
			p.tells(2)
		}
		p.does(1, remove(a.Path))
		p.tells(2)
	}
	p.order()
}
