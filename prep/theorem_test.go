package prep_test

import (
	"fmt"
	"math"
	"math/rand"
	"strings"
	"testing"

	"arboretum/api"
	"arboretum/disk"
	"arboretum/ledger"
	"arboretum/path"
	"arboretum/prep"
	"arboretum/tree"
	"arboretum/wire"
)

// F5: what comes of requests that are made into transactions one by one.

// sound: does each part of a transaction find what it needs, when it is done?
func sound(x *tree.Tree, n api.Txn) bool {
	c, l := x.Clone(), []api.Txn{n}
	if n.Kind == 6 || n.Kind == 7 {
		l = n.Subs
	}
	for _, part := range l {
		s, is := c.Stat(part.Path)
		_, up := c.Stat(path.Parent(part.Path))
		switch part.Kind {
		case 1:
			if is || !up {
				return false
			}
		case 2:
			if !is || s.Kids > 0 || !up {
				return false
			}
		case 3, 4:
			if !is {
				return false
			}
		case 0, 5, 8:
		default:
			return false
		}
		c.Apply(api.Entry{Zxid: 1, Txn: part})
	}
	return true
}

// bounded holds what the theorem says of each tree.
func bounded(t *testing.T, x *tree.Tree) {
	t.Helper()
	if n := len(x.Paths()); n > 64 {
		t.Errorf("%d nodes", n)
	}
	owned := map[int]int{}
	for _, p := range x.Paths() {
		data, s, _ := x.Get(p)
		if len(data) > 100 {
			t.Errorf("%q: %d bytes", p, len(data))
		}
		if s.Owner != 0 && s.Kids > 0 {
			t.Errorf("%q is an ephemeral with kids", p)
		}
		if _, up := x.Stat(path.Parent(p)); p != "/" && !up {
			t.Errorf("%q has no parent", p)
		}
		if s.Owner != 0 {
			owned[s.Owner]++
		}
	}
	for id, n := range owned {
		if _, _, is := x.Session(id); !is || n > 32 {
			t.Errorf("%d nodes of %d, a session: %t", n, id, is)
		}
	}
}

// run is a history that comes of requests.
type run struct {
	t     *testing.T
	x     *tree.Tree
	l     *ledger.Ledger
	order []api.Entry
	seen  map[string]int
}

func newRun(t *testing.T, seen map[string]int) *run {
	t.Helper()
	d, _ := disk.New(api.MaxSectors)
	l, e := ledger.Format(d)
	if e != api.OK {
		t.Fatalf("ledger.Format: %d", e)
	}
	h := &run{t: t, x: tree.New(), l: l, seen: seen}
	for id := 1; id <= 3; id++ {
		h.add(id, api.Txn{Kind: api.TxnOpen, Owner: id, Number: 10})
	}
	return h
}

func (h *run) add(session int, n api.Txn) {
	h.t.Helper()
	e := api.Entry{Zxid: 1<<32 + len(h.order) + 1, Session: session, Xid: len(h.order), Txn: n}
	if !sound(h.x, n) {
		h.t.Fatalf("not sound: %s", brief(n))
	}
	h.x.Apply(e)
	h.order = append(h.order, e)
	if s := wire.PutEntry(e); len(s) > 4000 {
		h.t.Errorf("%d bytes: %s", len(s), brief(n))
	}
	if err := h.l.Append(e); err != api.OK {
		h.t.Errorf("ledger.Append: %d: %s", err, brief(n))
	}
	if len(h.order)%200 == 0 {
		h.l.Compact(e.Zxid, "")
	}
	bounded(h.t, h.x)
}

// ask makes a transaction of a request, and does it.
func (h *run) ask(session int, ids []string, r api.Request) {
	h.t.Helper()
	ahead := h.x.Clone()
	n := asks(h.t, h.x, session, ids, r)
	h.add(session, n)
	h.seen[fmt.Sprint("kind ", n.Kind)]++
	switch {
	case n.Kind == api.TxnError:
		h.seen[fmt.Sprint("error ", n.Err)]++
		ahead.LayZxid(h.x.Zxid())
		if !ahead.Same(h.x) {
			h.t.Errorf("a refusal changes the tree: %s", brief(n))
		}
		ahead.LayZxid(h.x.Zxid() - 1)
		if r.Kind == api.ReqMulti && n.Number >= 0 {
			h.refusedAsParts(ahead, session, ids, r, n)
		}
	case n.Kind == api.TxnMulti:
		h.takenAsParts(ahead, session, ids, r)
	case n.Kind == api.TxnClose:
		if l := h.x.Owned(session); len(l) != 0 {
			h.t.Errorf("behind its TxnClose %d owns %q", session, l)
		}
		h.add(session, api.Txn{Kind: api.TxnOpen, Owner: session, Number: 10})
	}
}

// single is a part as a request of its own; a check, which is none, as the only part of a multi.
func single(x *tree.Tree, session int, ids []string, r api.Request) api.Txn {
	if r.Kind != api.ReqCheck {
		return prep.Txn(x, session, ids, r)
	}
	n := prep.Txn(x, session, ids, api.Request{Kind: api.ReqMulti, Subs: []api.Request{r}})
	if n.Kind == api.TxnMulti {
		n = n.Subs[0]
	}
	return n
}

// takenAsParts holds that the parts of a multi that was taken do the same one by one.
func (h *run) takenAsParts(x *tree.Tree, session int, ids []string, r api.Request) {
	h.t.Helper()
	for i, sub := range r.Subs {
		n := single(x, session, ids, sub)
		if n.Kind == api.TxnError {
			h.t.Errorf("the part %d of %s is refused: %s", i, brief(r), brief(n))
		}
		x.Apply(api.Entry{Zxid: h.x.Zxid(), Txn: n})
	}
	if !x.Same(h.x) {
		h.t.Errorf("another tree comes of %s part by part", brief(r))
	}
	h.seen[fmt.Sprint("taken ", len(r.Subs))]++
}

// refusedAsParts holds that of a multi that was refused a part would be, behind those ahead of it, which would not.
func (h *run) refusedAsParts(x *tree.Tree, session int, ids []string, r api.Request, n api.Txn) {
	h.t.Helper()
	for i, sub := range r.Subs[:n.Number+1] {
		y := single(x, session, ids, sub)
		if refused := y.Kind == api.TxnError; refused != (i == n.Number) && sub.Kind <= api.ReqCheck {
			h.t.Errorf("the part %d of %s: %s", i, brief(r), brief(y))
		} else if refused && sub.Kind <= api.ReqCheck && y.Err != n.Err {
			h.t.Errorf("the part %d of %s: %s, want %d", i, brief(r), brief(y), n.Err)
		}
		x.Apply(api.Entry{Zxid: h.x.Zxid(), Txn: y})
	}
	h.seen[fmt.Sprint("refused at ", n.Number)]++
}

// anyPart is a part such as leaves nodes behind, of few names; more often than not it is right.
func (h *run) anyPart(r *rand.Rand) api.Request {
	l := h.x.Paths()
	q := api.Request{Kind: []int{1, 1, 1, 1, 1, 2, 3, 3, 4, 5}[r.Intn(10)], Xid: r.Intn(9), Path: l[r.Intn(len(l))], Data: strings.Repeat("d", r.Intn(101)), Acl: all(), Flags: r.Intn(4), Version: r.Intn(4) - 1}
	if r.Intn(2) == 0 {
		q.Version = -1
	}
	if s, _ := h.x.Stat(q.Path); q.Kind == api.ReqCreate && (s.Owner == 0 || r.Intn(10) == 0) {
		q.Path = path.Kid(q.Path, []string{"a", "b-", "c", "d"}[r.Intn(4)])
	}
	switch r.Intn(60) {
	case 0, 1, 2:
		q.Acl = [][]api.Acl{{{Perms: 1, ID: "world"}, {Perms: 31, ID: ann}}, rows(31, bob), rows(15, "world")}[r.Intn(3)]
	case 3:
		q.Acl = someRows()[r.Intn(len(someRows()))]
	case 4:
		q.Path = texts()[r.Intn(len(texts()))]
	case 5:
		q.Data += "d"
	case 6:
		q.Flags = r.Intn(7) - 1
	case 7:
		q.Kind = r.Intn(17)
	}
	return q
}

func (h *run) anyAsk(r *rand.Rand) api.Request {
	q := h.anyPart(r)
	switch r.Intn(40) {
	case 0:
		q.Kind = []int{7, 8, 9}[r.Intn(3)]
	case 1, 2, 3, 4, 5, 6, 7, 8, 9, 10:
		q.Kind = 6
		for range []int{1, 1, 2, 2, 2, 3, 3, 4, 6, 8, 9}[r.Intn(11)] {
			q.Subs = append(q.Subs, h.anyPart(r))
		}
	}
	return q
}

func TestF5AnyRequests(t *testing.T) {
	r, seen := rand.New(rand.NewSource(3)), map[string]int{}
	for range 40 {
		h := newRun(t, seen)
		for range 500 {
			session := 1 + r.Intn(3)
			if r.Intn(50) == 0 {
				session = 4
			}
			h.ask(session, [][]string{nil, {ann}, {ann, bob}, {ann, bob}}[r.Intn(4)], h.anyAsk(r))
			if t.Failed() {
				return
			}
		}
		h.again()
	}
	for _, s := range strings.Split("kind 0,kind 1,kind 2,kind 3,kind 4,kind 6,kind 7,kind 8,error 1,error 40,error 50,error 60,error 61,error 62,error 63,error 64,error 65,error 66,error 67,error 110,taken 1,taken 2,taken 3,taken 6,refused at 0,refused at 1,refused at 2,refused at 5", ",") {
		if seen[s] < 20 {
			t.Errorf("only %d of %s: %v", seen[s], s, seen)
		}
	}
}

// again: the end of a sound history, from any entry on, done again on the tree that came of the whole, gives that tree.
func (h *run) again() {
	h.t.Helper()
	for i := 0; i < len(h.order); i += 40 {
		x := h.x.Clone()
		for _, e := range h.order[i:] {
			x.Apply(e)
		}
		if !x.Same(h.x) {
			h.t.Errorf("done again from %d on: another tree", i)
		}
	}
}

// TestF5Full: one tree that gets full, in each way, and sessions that end.
func TestF5Full(t *testing.T) {
	seen := map[string]int{}
	h := newRun(t, seen)
	for i := range 70 {
		h.ask(1+i%2, nil, api.Request{Kind: 1, Path: "/e-", Acl: all(), Flags: 3})
	}
	if n := len(h.x.Owned(1)); n != 32 || len(h.x.Paths()) != 64 {
		t.Errorf("%d owned, %d nodes", n, len(h.x.Paths()))
	}
	h.ask(1, nil, api.Request{Kind: 8})
	for range 40 {
		h.ask(3, nil, api.Request{Kind: 1, Path: "/e-", Acl: all(), Flags: 3})
	}
	for id := 1; id <= 3; id++ {
		h.ask(id, nil, api.Request{Kind: 8})
	}
	if len(h.x.Paths()) != 1 {
		t.Errorf("left: %q", h.x.Paths())
	}
	for range 70 {
		h.ask(1, nil, api.Request{Kind: 1, Path: "/p-", Acl: all(), Flags: 2})
	}
	if len(h.x.Paths()) != 64 || seen["error 64"] < 20 {
		t.Errorf("%d nodes, %v", len(h.x.Paths()), seen)
	}
	h.again()
}

// TestF5Longest: the longest transactions of all are records that a ledger takes.
func TestF5Longest(t *testing.T) {
	id := strings.Repeat("z", 12) + ":" + strings.Repeat("f", 16)
	four := []api.Acl{{Perms: 31, ID: id}, {Perms: 31, ID: id}, {Perms: 31, ID: id}, {Perms: 31, ID: "world"}}
	x := tree.New()
	x.LaySession(math.MaxInt, 10, "")
	deep := "/" + strings.Repeat("a", 20)
	x.Lay(deep, "", all(), api.Stat{Cversion: math.MaxInt - 100})
	name := deep + "/" + strings.Repeat("x", 26)
	r := api.Request{Kind: 1, Path: name + "00", Data: strings.Repeat("\xff", 100), Acl: four, Flags: 3}
	multi := api.Request{Kind: 6}
	for range 8 {
		multi.Subs = append(multi.Subs, r)
	}
	fits := func(what string, n api.Txn, kind int) {
		t.Helper()
		e := api.Entry{Zxid: 1<<62 - 1, Session: math.MaxInt, Xid: math.MinInt, Txn: n}
		d, _ := disk.New(api.MaxSectors)
		l, _ := ledger.Format(d)
		if err := l.Append(e); n.Kind != kind || err != api.OK || len(wire.PutEntry(e)) > api.MaxRecord {
			t.Errorf("%s: %d, %d bytes: %s", what, err, len(wire.PutEntry(e)), brief(n))
		}
	}
	fits("a multi", asks(t, x, math.MaxInt, nil, multi), api.TxnMulti)
	for i := range 32 {
		n := asks(t, x, math.MaxInt, nil, r)
		fits("a create", n, api.TxnCreate)
		x.Apply(api.Entry{Zxid: i, Txn: n})
	}
	n := asks(t, x, math.MaxInt, nil, api.Request{Kind: 8})
	if len(n.Subs) != 32 || len(n.Subs[0].Path) != 60 {
		t.Errorf("a close: %s", brief(n))
	}
	fits("a close", n, api.TxnClose)
}
