package plain_test

import (
	"fmt"
	"math/rand"
	"slices"
	"strings"
	"testing"

	"arboretum/acl"
	"arboretum/api"
	"arboretum/path"
	"arboretum/plain"
	"arboretum/tree"
)

// spoil writes into a list and its spare room, and grows it.
func spoil[T any](l []T, by T) {
	l = l[:cap(l)]
	for i := range l {
		l[i] = by
	}
	_ = append(l, by)
}

func spoilTxn(x api.Txn) {
	for _, sub := range x.Subs {
		spoilTxn(sub)
	}
	spoil(x.Acl, api.Acl{Perms: 9, ID: "spoilt"})
	spoil(x.Subs, api.Txn{Kind: 99})
}

func spoilOrder(l []api.Entry) {
	for _, e := range l {
		spoilTxn(e.Txn)
	}
	spoil(l, api.Entry{Zxid: 99})
}

func spoilReply(r api.Reply) {
	for _, sub := range r.Subs {
		spoilReply(sub)
	}
	spoil(r.Acl, api.Acl{Perms: 9, ID: "spoilt"})
	spoil(r.Kids, "spoilt")
	spoil(r.Subs, api.Reply{Err: 99})
}

func spoilRequest(r api.Request) {
	for _, sub := range r.Subs {
		spoilRequest(sub)
	}
	spoil(r.Acl, api.Acl{Perms: 9, ID: "spoilt"})
	spoil(r.Subs, api.Request{Kind: 99})
	spoil(r.Armed, api.Armed{Kind: 1, Path: "/"})
}

// given is a request of a kind, with more behind each length, and the same again.
func given(kind int) (api.Request, api.Request) {
	one := func() api.Request {
		list := func() []api.Acl {
			return []api.Acl{{Perms: 31, ID: "world"}, {Perms: 7, ID: ann}, {Perms: 1, ID: "behind"}}[:2]
		}
		subs := []api.Request{{Kind: 1, Path: "/n", Acl: list()}, {Kind: 4, Path: "/a", Acl: list(), Version: -1}, {Kind: 99, Path: "behind"}}
		armed := []api.Armed{{Kind: 2, Path: "/q"}, {Kind: 1, Path: "/a"}, {Kind: 2, Path: "/a"}, {Kind: 1, Path: "behind"}}
		r := api.Request{Kind: kind, Xid: 3, Path: "/a", Data: "d", Acl: list(), Version: -1, Watch: true, Subs: subs[:2], Armed: armed[:3]}
		if kind == api.ReqCreate {
			r.Path = "/new"
		}
		if kind == api.ReqAuth {
			r.Path = "ann"
		}
		return r
	}
	return one(), one()
}

// whole is a request with what stands behind its lists' lengths.
func whole(r api.Request) string {
	for i := range r.Subs {
		r.Data += whole(r.Subs[i])
	}
	r.Acl, r.Subs, r.Armed = r.Acl[:cap(r.Acl)], r.Subs[:cap(r.Subs)], r.Armed[:cap(r.Armed)]
	return fmt.Sprintf("%+v", r)
}

// TestR3WhatIsHandedIn is not written into, nor what is behind it; and whoever handed it in may write into it.
func TestR3WhatIsHandedIn(t *testing.T) {
	for kind := range 17 {
		p := scene(t)
		p.does(2, watched(11, "/"))
		r, same := given(kind)
		got, _ := p.x.Call(2, r)
		if want, _ := p.m.call(2, same); !sameReply(got, want) {
			t.Errorf("kind %d: %s, want %s", kind, brief(got), brief(want))
		}
		if whole(r) != whole(same) {
			t.Errorf("kind %d: written into: %s", kind, brief(r))
		}
		spoilRequest(r)
		p.look()
		p.order()
		p.does(1, create("/q", ""))
		p.does(1, set("/a", "new"))
		p.events(2)
		p.look()
		p.order()
	}
}

// TestR3NewMemory: whoever has an answer may write into it.
func TestR3NewMemory(t *testing.T) {
	p := scene(t)
	for kind := range 17 {
		r, _ := given(kind)
		for range 2 {
			got, want := p.call(2, r), api.Reply{}
			if kind >= 9 {
				want = p.call(2, r)
			}
			spoilReply(got)
			if kind >= 9 {
				again, _ := p.x.Call(2, r)
				if !sameReply(again, want) {
					t.Errorf("kind %d: another answer was changed: %s, want %s", kind, brief(again), brief(want))
				}
			}
			if kind == api.ReqClose {
				break
			}
		}
		if kind == api.ReqClose {
			p = scene(t)
		}
		spoilOrder(p.order())
		p.order()
		p.look()
	}
	p.does(1, api.Request{Kind: 6, Subs: []api.Request{create("/m", ""), {Kind: 4, Path: "/m", Acl: rows(31, "world")}}})
	l, m := p.x.Order(), p.x.Order()
	spoilOrder(l)
	if !slices.EqualFunc(m, p.m.order, sameEntry) {
		t.Errorf("one order is another's: %s", brief(m))
	}
	p.order()
	p.look()
}

// TestR3Events: what was told is its receiver's, and what is told later is not laid there.
func TestR3Events(t *testing.T) {
	p := scene(t)
	var had [][]api.Event
	var want [][]api.Event
	for i := range 20 {
		for j := range i % 5 {
			at := fmt.Sprintf("/n%d", j)
			for id := 1; id <= 2; id++ {
				p.call(id, watched(10, at))
				p.call(id, watched(11, "/"))
			}
			p.call(1, create(at, ""))
			p.call(1, remove(at))
		}
		a, b := p.events(1), p.events(2)
		spoil(a, api.Event{Kind: 99})
		had, want = append(had, b), append(want, slices.Clone(b))
		if i%3 == 0 {
			_ = append(b, api.Event{Kind: 98})
		}
	}
	for i := range had {
		if !slices.Equal(had[i], want[i]) {
			t.Errorf("what was told ahead was changed: %s, want %s", brief(had[i]), brief(want[i]))
		}
	}
}

// anyRequest is one of few paths; more often than not it is right.
func anyRequest(r *rand.Rand, deep int) api.Request {
	paths := []string{"/", "/a", "/a", "/b", "/a/c", "/a/c", "/b/d", "/a/c/e", "/q", "/a-"}
	q := api.Request{Kind: []int{1, 1, 1, 1, 1, 2, 2, 3, 3, 4, 6, 7, 9, 9, 10, 10, 11, 11, 12, 13, 14, 15}[r.Intn(22)], Xid: r.Intn(1000), Path: paths[r.Intn(len(paths))], Acl: all(), Version: -1, Watch: r.Intn(3) > 0}
	q.Data = strings.Repeat("d", r.Intn(3))
	if q.Kind == api.ReqAuth {
		q.Path, q.Data = "ann", []string{"x", "x", "y", "z"}[r.Intn(4)]
	}
	if q.Kind == api.ReqCreate {
		q.Flags = []int{0, 0, 0, 1, 2, 3}[r.Intn(6)]
	}
	for range r.Intn(4) {
		if q.Kind == api.ReqArm {
			q.Armed = append(q.Armed, api.Armed{Kind: r.Intn(5), Path: paths[r.Intn(len(paths))], Czxid: 1<<32 + r.Intn(40), Mzxid: 1<<32 + r.Intn(40), Pzxid: 1<<32 + r.Intn(40)})
		}
		if q.Kind == api.ReqMulti && deep > 0 {
			sub := anyRequest(r, 0)
			if sub.Kind > 5 {
				sub.Kind = 1 + r.Intn(5)
			}
			q.Subs = append(q.Subs, sub)
		}
	}
	switch r.Intn(40) {
	case 0:
		q.Kind = r.Intn(20) - 2
	case 1:
		q.Path = texts()[r.Intn(len(texts()))]
	case 2:
		q.Acl = [][]api.Acl{nil, rows(0, "world"), rows(1, "x")}[r.Intn(3)]
	case 3, 4:
		q.Acl = append(rows(31, ann), rows(r.Intn(31)+1, "world")...)
	case 5:
		q.Version = r.Intn(3)
	case 6:
		q.Data = strings.Repeat("d", 100+r.Intn(2))
	case 7:
		q.Kind = api.ReqClose
	}
	return q
}

// step does anything, and answers what it was.
func (p pair) step(r *rand.Rand) string {
	p.t.Helper()
	session := r.Intn(p.m.opened+2) - 1
	if n := len(p.m.seats); n > 0 && r.Intn(20) > 0 {
		session = p.m.seats[r.Intn(n)].session
	}
	switch r.Intn(30) {
	case 0, 1:
		if p.open(r.Intn(70)) == 0 {
			return "full"
		}
		return "open"
	case 2:
		return fmt.Sprint("expire ", p.expire(session))
	case 3, 4:
		return fmt.Sprint("events ", min(len(p.events(session)), 3))
	}
	q := anyRequest(r, 1)
	return fmt.Sprint("call ", q.Kind, " ", p.call(session, q).Err)
}

func TestAnything(t *testing.T) {
	r, seen := rand.New(rand.NewSource(1)), map[string]int{}
	for range 60 {
		p := newPair(t, 1+r.Intn(4))
		for range 250 {
			seen[p.step(r)]++
			if t.Failed() {
				return
			}
		}
		p.order()
		for _, s := range slices.Clone(p.m.seats) {
			p.events(s.session)
		}
	}
	for _, s := range strings.Split("open,expire 0,expire 67,events 0,events 1,events 2,events 3,call 1 0,call 1 61,call 1 60,call 1 63,call 1 65,call 2 0,call 2 62,call 3 0,call 3 66,call 4 0,call 4 50,call 6 0,call 6 1,call 6 60,call 7 0,call 8 0,call 9 0,call 9 60,call 9 65,call 10 0,call 10 60,call 11 0,call 12 0,call 13 0,call 14 0,call 15 0,call 5 110", ",") {
		if seen[s] < 5 {
			t.Errorf("only %d of %s: %v", seen[s], s, seen)
		}
	}
}

// TestAnythingFull: many sessions, nodes, IDs and watches, so that each is refused.
func TestAnythingFull(t *testing.T) {
	r, seen := rand.New(rand.NewSource(2)), map[string]int{}
	for range 3 {
		p := newPair(t, 16)
		for range 1500 {
			session := p.m.seats[r.Intn(2)].session
			q := api.Request{Kind: []int{1, 1, 10, 10, 10, 10, 13}[r.Intn(7)], Path: fmt.Sprintf("/n%02d", r.Intn(150)), Acl: all(), Flags: []int{0, 1, 1, 1}[r.Intn(4)], Watch: true}
			if q.Kind == 13 {
				q.Path, q.Data = "bob", fmt.Sprint(r.Intn(40))
			}
			seen[fmt.Sprint(q.Kind, " ", p.call(session, q).Err)]++
			if r.Intn(300) == 0 {
				p.expire(session)
				p.open(10)
				p.open(10)
			}
			if t.Failed() {
				return
			}
		}
		p.order()
	}
	for _, s := range []string{"1 0", "1 64", "10 91", "10 0", "13 0", "13 1"} {
		if seen[s] < 20 {
			t.Errorf("only %d of %s: %v", seen[s], s, seen)
		}
	}
}

// TestR4OneState: services that were made apart know nothing of one another, and the same calls are answered the same.
func TestR4OneState(t *testing.T) {
	r := rand.New(rand.NewSource(4))
	p, q := newPair(t, 2), newPair(t, 3)
	for range 600 {
		if r.Intn(2) == 0 {
			p.step(r)
		} else {
			q.step(r)
		}
	}
	p.order()
	q.order()
	for _, one := range []pair{p, q} {
		for _, s := range one.m.seats {
			one.events(s.session)
		}
	}
}

// Q5: the stage's theorem, of what the calls answer by themselves.

// made is the tree that comes of a service's order.
func made(t *testing.T, x *plain.Plain) *tree.Tree {
	t.Helper()
	now := tree.New()
	for i, e := range x.Order() {
		if e.Zxid != 1<<32+i+1 {
			t.Fatalf("the entry %d: %d", i, e.Zxid)
		}
		now.Apply(e)
	}
	return now
}

// shows holds what a service tells of its tree, by a session of these IDs, against a tree.
func shows(t *testing.T, x *plain.Plain, session int, ids []string, now *tree.Tree) {
	t.Helper()
	for _, at := range append(now.Paths(), "/a", "/b", "/a/c", "/q") {
		data, s, e := now.Get(at)
		rows, _ := now.Acl(at)
		kids, _ := now.Kids(at)
		if e == api.OK && !acl.May(rows, api.PermRead, ids...) {
			e = api.ErrTreeAuth
		}
		want := []api.Reply{{Data: data, Stat: s}, {Stat: s}, {Kids: kids, Stat: s}, {Acl: rows, Stat: s}}
		for kind := 9; kind <= 12; kind++ {
			w := want[kind-9]
			if e == api.ErrTreeNone || e == api.ErrTreeAuth && kind != 10 {
				w = api.Reply{Err: e}
			}
			w.Zxid = now.Zxid()
			if got, err := x.Call(session, api.Request{Kind: kind, Path: at}); err != api.OK || !sameReply(got, w) {
				t.Errorf("kind %d of %q: %s, want %s", kind, at, brief(got), brief(w))
			}
		}
	}
}

// lives are the sessions that the order has opened, and not ended.
func lives(l []api.Entry) map[int]bool {
	is := map[int]bool{}
	for _, e := range l {
		if e.Txn.Kind == api.TxnOpen {
			is[e.Txn.Owner] = true
		}
		if e.Txn.Kind == api.TxnClose {
			delete(is, e.Txn.Owner)
		}
	}
	return is
}

func TestQ5(t *testing.T) {
	r, seen := rand.New(rand.NewSource(5)), map[string]int{}
	for range 30 {
		x := plain.New()
		for range 4 {
			x.Open(10)
		}
		reader, _ := x.Open(10)
		owners := map[string]int{} // of ephemerals
		for range 200 {
			ahead, n := made(t, x), len(x.Order())
			session, q := 1+r.Intn(4), anyRequest(r, 1)
			got, e := x.Call(session, q)
			now := made(t, x)
			seen[theoremStep(t, ahead, now, got, e, len(x.Order())-n)]++
			after := lives(x.Order())
			for at, owner := range owners { // gone is none but by a deletion, or with its session
				if s, is := now.Stat(at); after[owner] && e == api.OK && q.Kind != api.ReqDelete && q.Kind != api.ReqMulti && (!is || s.Owner != owner) {
					t.Errorf("%q of %d is gone by %s", at, owner, brief(q))
				}
			}
			clear(owners)
			for _, at := range now.Paths() {
				s, _ := now.Stat(at)
				if s.Owner == 0 {
					continue
				}
				owners[at] = s.Owner
				if !after[s.Owner] {
					t.Errorf("%q is there without its session %d", at, s.Owner)
				}
				if _, up := now.Stat(path.Parent(at)); !up {
					t.Errorf("%q has no parent", at)
				}
			}
			seen[fmt.Sprint("ephemerals ", min(len(owners), 3))]++
			if read, e := x.Call(reader, api.Request{Kind: api.ReqExists, Path: "/"}); e != api.OK || read.Zxid < got.Zxid {
				t.Errorf("behind %d is read: %s, %d", got.Zxid, brief(read), e)
			}
			if t.Failed() {
				return
			}
		}
		shows(t, x, reader, nil, made(t, x))
		x.Call(reader, auth("ann", "x"))
		shows(t, x, reader, []string{ann}, made(t, x))
	}
	for _, s := range []string{"changed", "refused", "ordered, nothing changed", "read", "gone", "ephemerals 0", "ephemerals 1", "ephemerals 3"} {
		if seen[s] < 20 {
			t.Errorf("only %d of %s: %v", seen[s], s, seen)
		}
	}
}

// theoremStep holds what a call did to the order and the tree against what it answered.
func theoremStep(t *testing.T, ahead, now *tree.Tree, got api.Reply, e api.Errno, entries int) string {
	t.Helper()
	if entries < 0 || entries > 1 || e != api.OK && entries > 0 || e == api.OK && got.Zxid != now.Zxid() {
		t.Errorf("%d entries by a call that was answered %s, %d", entries, brief(got), e)
	}
	ahead.LayZxid(now.Zxid())
	changed := !now.Same(ahead)
	switch {
	case changed && (got.Err != api.OK || entries == 0):
		t.Errorf("the tree is changed by what was answered %s", brief(got))
	case e != api.OK:
		return "gone"
	case changed:
		return "changed"
	case entries == 1 && got.Err != api.OK:
		return "refused"
	case entries == 1:
		return "ordered, nothing changed"
	}
	return "read"
}

// TestMany: a service goes on and on.
func TestMany(t *testing.T) {
	x := plain.New()
	for i := 1; i <= 2000; i++ {
		s, e := x.Open(10)
		if s != i || e != api.OK {
			t.Fatalf("Open: %d, %d", s, e)
		}
		x.Call(s, watched(11, "/"))
		x.Call(s, owned("/a"))
		x.Call(s, auth("ann", "x"))
		if l := x.Events(s); len(l) != 1 || l[0] != event(4, "/", 3*i-1) {
			t.Fatalf("Events(%d): %s", s, brief(l))
		}
		x.Call(s, watched(9, "/a"))
		if e := x.Expire(s); e != api.OK || len(x.Events(s)) != 0 {
			t.Fatalf("Expire(%d): %d", s, e)
		}
	}
	if l := x.Order(); len(l) != 6000 || l[5999].Zxid != 1<<32+6000 {
		t.Errorf("%d entries", len(l))
	}
}
