package prep_test

import (
	"fmt"
	"math"
	"math/rand"
	"slices"
	"strings"
	"testing"

	"arboretum/acl"
	"arboretum/api"
	"arboretum/path"
	"arboretum/prep"
	"arboretum/tree"
)

// The chapter's words, done step by step: what the package answers is held against it.

const (
	ann = "ann:7c48e6cd280a3c7a"
	bob = "bob:0123456789abcdef"
)

// fault is one of a table's errors, and whether it holds.
type fault struct {
	e     api.Errno
	holds bool
}

func first(l []fault) api.Errno {
	for _, f := range l {
		if f.holds {
			return f.e
		}
	}
	return api.OK
}

// place is what a table asks of a node.
type place struct {
	is   bool
	stat api.Stat
	rows []api.Acl
	ids  []string
}

func at(t *tree.Tree, p string, ids []string) place {
	s, is := t.Stat(p)
	rows, _ := t.Acl(p)
	return place{is, s, rows, ids}
}

func (p place) may(perm int) bool { return p.is && acl.May(p.rows, perm, p.ids...) }

func stale(version, number int) bool { return version != number && version != -1 }

// modelPart is a row of the table.
func modelPart(t *tree.Tree, session int, ids []string, r api.Request) (api.Txn, api.Errno) {
	n, up, check := at(t, r.Path, ids), at(t, path.Parent(r.Path), ids), path.Check(r.Path)
	bad := fault{check, check != api.OK}
	none := fault{60, !n.is}
	var l []fault
	var x api.Txn
	switch r.Kind {
	case 1:
		p, owned := r.Path, r.Flags == 1 || r.Flags == 3
		if r.Flags == 2 || r.Flags == 3 {
			digits := fmt.Sprintf("%019d", max(up.stat.Cversion, 0))
			p += digits[9:]
		}
		_, there := t.Stat(p)
		l = []fault{bad, {1, len(r.Data) > 100 || r.Flags < 0 || r.Flags > 3}, {50, !acl.Right(r.Acl)}, {60, !up.is}, {63, up.stat.Owner != 0},
			{65, !up.may(4)}, {41, path.Check(p) != api.OK}, {61, there}, {64, len(t.Paths()) > 63 || owned && len(t.Owned(session)) > 31}}
		x = api.Txn{Kind: 1, Path: p, Data: r.Data, Acl: r.Acl, Number: up.stat.Cversion + 1}
		if owned {
			x.Owner = session
		}
	case 2:
		l = []fault{bad, {1, r.Path == "/"}, none, {65, !up.may(8)}, {66, stale(r.Version, n.stat.Version)}, {62, n.stat.Kids != 0}}
		x = api.Txn{Kind: 2, Path: r.Path, Number: up.stat.Cversion + 1}
	case 3:
		l = []fault{bad, {1, len(r.Data) > 100}, none, {65, !n.may(2)}, {66, stale(r.Version, n.stat.Version)}}
		x = api.Txn{Kind: 3, Path: r.Path, Data: r.Data, Number: n.stat.Version + 1}
	case 4:
		l = []fault{bad, {50, !acl.Right(r.Acl)}, none, {65, !n.may(16)}, {66, stale(r.Version, n.stat.Aversion)}}
		x = api.Txn{Kind: 4, Path: r.Path, Acl: r.Acl, Number: n.stat.Aversion + 1}
	case 5:
		l = []fault{bad, none, {65, !n.may(1)}, {66, stale(r.Version, n.stat.Version)}}
	default:
		l = []fault{{110, true}}
	}
	if e := first(l); e != api.OK {
		return api.Txn{}, e
	}
	return x, api.OK
}

func refused(e api.Errno, part int) api.Txn { return api.Txn{Kind: 8, Err: e, Number: part} }

func modelChanges(kind int) bool { return kind >= 1 && kind <= 8 && kind != 5 }

func modelTxn(t *tree.Tree, session int, ids []string, r api.Request) api.Txn {
	if t == nil {
		return refused(1, -1)
	}
	if !modelChanges(r.Kind) {
		return refused(110, -1)
	}
	if !slices.Contains(t.Sessions(), session) {
		return refused(67, -1)
	}
	switch r.Kind {
	case 6:
		return modelMulti(t.Clone(), session, ids, r)
	case 7:
		return api.Txn{}
	case 8:
		return modelClose(t, session)
	}
	x, e := modelPart(t, session, ids, r)
	if e != api.OK {
		return refused(e, -1)
	}
	return x
}

// modelMulti does the parts in t.
func modelMulti(t *tree.Tree, session int, ids []string, r api.Request) api.Txn {
	if len(r.Subs) == 0 || len(r.Subs) > 8 {
		return refused(1, -1)
	}
	x := api.Txn{Kind: 7}
	for i, sub := range r.Subs {
		y, e := modelPart(t, session, ids, sub)
		if e != api.OK {
			return refused(e, i)
		}
		t.Apply(api.Entry{Zxid: 77 + i, Txn: y})
		x.Subs = append(x.Subs, y)
	}
	return x
}

// modelClose counts at each parent how many of its kids went ahead; none of them takes a parent away, which is less by bytes than its kids.
func modelClose(t *tree.Tree, session int) api.Txn {
	x, ahead := api.Txn{Kind: 6, Owner: session}, map[string]int{}
	l := t.Owned(session)
	for i := len(l) - 1; i >= 0; i-- {
		y := api.Txn{Kind: 2, Path: l[i], Number: 1}
		parent := path.Parent(l[i])
		if s, is := t.Stat(parent); is {
			y.Number = s.Cversion + ahead[parent] + 1
			ahead[parent]++
		}
		x.Subs = append(x.Subs, y)
	}
	return x
}

func modelReply(t *tree.Tree, e api.Entry) api.Reply {
	if t == nil {
		return api.Reply{}
	}
	part := func(x api.Txn) api.Reply {
		r := api.Reply{}
		if x.Kind == 1 {
			r.Path = x.Path
		}
		if x.Kind == 1 || x.Kind == 3 || x.Kind == 4 {
			r.Stat, _ = t.Stat(x.Path)
		}
		return r
	}
	r := part(e.Txn)
	if e.Txn.Kind == 7 {
		for _, sub := range e.Txn.Subs {
			r.Subs = append(r.Subs, part(sub))
		}
	}
	if e.Txn.Kind == 8 {
		r.Err = e.Txn.Err
		if n := e.Txn.Number; n >= 0 && n <= 7 {
			r.Subs = make([]api.Reply, n+1)
			for i := range n {
				r.Subs[i].Err = 111
			}
			r.Subs[n].Err = e.Txn.Err
		}
	}
	r.Xid, r.Zxid = e.Xid, e.Zxid
	return r
}

func modelRead(t *tree.Tree, ids []string, r api.Request) api.Reply {
	if t == nil {
		return api.Reply{}
	}
	answer := api.Reply{Xid: r.Xid, Zxid: t.Zxid()}
	n, check := at(t, r.Path, ids), path.Check(r.Path)
	l := []fault{{check, check != api.OK}, {60, !n.is}, {65, r.Kind != 10 && !n.may(1)}}
	if r.Kind < 9 || r.Kind > 12 {
		l = []fault{{110, true}}
	}
	if answer.Err = first(l); answer.Err != api.OK {
		return answer
	}
	answer.Stat = n.stat
	switch r.Kind {
	case 9:
		answer.Data, _, _ = t.Get(r.Path)
	case 11:
		answer.Kids, _ = t.Kids(r.Path)
	case 12:
		answer.Acl = n.rows
	}
	return answer
}

func sameTxn(x, y api.Txn) bool {
	return x.Kind == y.Kind && x.Path == y.Path && x.Data == y.Data && x.Owner == y.Owner && x.Number == y.Number && x.Err == y.Err &&
		slices.Equal(x.Acl, y.Acl) && slices.EqualFunc(x.Subs, y.Subs, sameTxn)
}

func sameReply(r, q api.Reply) bool {
	return r.Xid == q.Xid && r.Zxid == q.Zxid && r.Err == q.Err && r.Path == q.Path && r.Data == q.Data && r.Stat == q.Stat &&
		slices.Equal(r.Acl, q.Acl) && slices.Equal(r.Kids, q.Kids) && slices.EqualFunc(r.Subs, q.Subs, sameReply)
}

// brief is what is told of a thing in an error, which may be long.
func brief(x any) string {
	s := fmt.Sprintf("%+v", x)
	return s[:min(len(s), 600)]
}

// asks holds what Txn answers against the model, and answers it.
func asks(t *testing.T, x *tree.Tree, session int, ids []string, r api.Request) api.Txn {
	t.Helper()
	got, want := prep.Txn(x, session, ids, r), modelTxn(x, session, ids, r)
	if !sameTxn(got, want) {
		t.Errorf("Txn(%d, %.100q, %s): %s, want %s", session, ids, brief(r), brief(got), brief(want))
	}
	return got
}

func replies(t *testing.T, x *tree.Tree, e api.Entry) api.Reply {
	t.Helper()
	got, want := prep.Reply(x, e), modelReply(x, e)
	if !sameReply(got, want) {
		t.Errorf("Reply(%s): %s, want %s", brief(e), brief(got), brief(want))
	}
	return got
}

func reads(t *testing.T, x *tree.Tree, ids []string, r api.Request) api.Reply {
	t.Helper()
	got, want := prep.Read(x, ids, r), modelRead(x, ids, r)
	if !sameReply(got, want) {
		t.Errorf("Read(%.100q, %s): %s, want %s", ids, brief(r), brief(got), brief(want))
	}
	return got
}

// refuses holds that a request is refused so, as the test itself says.
func refuses(t *testing.T, x *tree.Tree, session int, ids []string, r api.Request, e api.Errno, part int) {
	t.Helper()
	if got := asks(t, x, session, ids, r); !sameTxn(got, refused(e, part)) {
		t.Errorf("Txn(%d, %.100q, %s): %s, want a refusal of %d, %d", session, ids, brief(r), brief(got), e, part)
	}
}

// becomes holds that a request is that transaction, as the test itself says.
func becomes(t *testing.T, x *tree.Tree, session int, ids []string, r api.Request, want api.Txn) {
	t.Helper()
	if got := asks(t, x, session, ids, r); !sameTxn(got, want) {
		t.Errorf("Txn(%d, %.100q, %s): %s, want %s", session, ids, brief(r), brief(got), brief(want))
	}
}

func rows(perms int, id string) []api.Acl { return []api.Acl{{Perms: perms, ID: id}} }

func all() []api.Acl { return rows(31, "world") }

// made is a tree of the sessions 7, 9 and 2^40, which has
//
//	/a     x, read by everybody, and what else there is by ann
//	/a/e   an ephemeral of 7, by all
//	/a/k   y, by bob alone
//	/r     of no permissions but read, by everybody
//	/v     of Version 3, Cversion 4, Aversion 5, by all
//	/o/p   by all, without its parent
func made() *tree.Tree {
	x := tree.New()
	for _, id := range []int{7, 9, 1 << 40} {
		x.LaySession(id, 10, "s")
	}
	for i, n := range []api.Txn{
		{Path: "/a", Data: "x", Acl: []api.Acl{{Perms: 1, ID: "world"}, {Perms: 30, ID: ann}}},
		{Path: "/a/e", Acl: all(), Owner: 7},
		{Path: "/a/k", Data: "y", Acl: rows(31, bob)},
		{Path: "/r", Acl: rows(1, "world")},
	} {
		n.Kind, n.Number = api.TxnCreate, i+1
		x.Apply(api.Entry{Zxid: 10 + i, Txn: n})
	}
	x.Lay("/v", "z", all(), api.Stat{Czxid: 14, Mzxid: 15, Pzxid: 16, Version: 3, Cversion: 4, Aversion: 5})
	x.Lay("/o/p", "", all(), api.Stat{Czxid: 17, Mzxid: 17, Pzxid: 17})
	x.LayZxid(20)
	return x
}

// filled has nodes to that number, n of them owned by 7.
func filled(nodes, n int) *tree.Tree {
	x := tree.New()
	x.LaySession(7, 10, "")
	x.LaySession(9, 10, "")
	for i := 1; i < nodes; i++ {
		s := api.Stat{Czxid: i, Mzxid: i, Pzxid: i}
		if i <= n {
			s.Owner = 7
		}
		x.Lay(fmt.Sprintf("/n%02d", i), "", all(), s)
	}
	x.LayZxid(nodes)
	return x
}

// odd has all that only Lay brings about: numbers at their ends, owners that are no sessions, nodes without parents, ACLs that are none, and a root that is owned.
func odd() *tree.Tree {
	x := tree.New()
	for _, id := range []int{3, 7} {
		x.LaySession(id, -1, "")
	}
	x.Lay("/", "root", all(), api.Stat{Owner: 7, Cversion: math.MaxInt})
	x.Lay("/max", "", all(), api.Stat{Version: math.MaxInt, Cversion: math.MaxInt, Aversion: math.MaxInt, Owner: 7})
	x.Lay("/min", "", all(), api.Stat{Version: math.MinInt, Cversion: math.MinInt, Aversion: math.MinInt})
	x.Lay("/min/-1", "", all(), api.Stat{Version: -1, Cversion: -1, Aversion: -1, Owner: -7})
	x.Lay("/max/e", "", all(), api.Stat{Version: -2, Cversion: -2, Aversion: -2, Owner: 7})
	x.Lay("/max/f", "", nil, api.Stat{Owner: 7, Cversion: 9999999999})
	x.Lay("/far/away", strings.Repeat("d", 300), nil, api.Stat{Owner: 7, Cversion: 10000000000})
	x.Lay("/far/off", "", []api.Acl{{Perms: -1, ID: ""}, {Perms: 1 << 40, ID: "world"}, {Perms: 2, ID: "x"}, {Perms: 1, ID: "y"}, {Perms: 8, ID: "x"}}, api.Stat{Owner: 7})
	x.Lay("/far/off/x", "", all(), api.Stat{Owner: 3, Cversion: 12345678901})
	x.Lay("/far/off/x/y/z/-", "", all(), api.Stat{})
	x.LayZxid(-5)
	return x
}

// right are paths, of up to six names and 60 bytes.
func right() []string {
	return []string{"/", "/a", "/a/e", "/a/e/f", "/a/k", "/a/k/l", "/a/n", "/b", "/b/c", "/r", "/r/s", "/v", "/v/w", "/o", "/o/p", "/o/q", "/o/p/q", "/max", "/max/e", "/min", "/min/-1", "/min/-1/x", "/far/away", "/far/off/x", "/n01", "/n01/k",
		"/a/b/c/d/e/f", "/" + strings.Repeat("x", 49), "/" + strings.Repeat("x", 50), "/v/" + strings.Repeat("x", 57)}
}

// wrong are texts that are no paths, most of them such as differ from one in little.
func wrong() []string {
	return []string{"", "a", "a/b", "//", "/a/", "//a", "/a b", "/.", "/a/..", "/v/.", "/a\x00", "/ä", "/a/b/c/d/e/f/g", "/" + strings.Repeat("x", 60), strings.Repeat("/a", 1<<12)}
}

func texts() []string { return append(right(), wrong()...) }

func numbers() []int {
	return []int{math.MinInt, math.MinInt + 1, -1 << 32, -7, -2, -1, 0, 1, 2, 3, 4, 5, 7, 8, 9, 31, 1 << 32, 1<<32 + 1, 1<<32 + 7, 1 << 40, math.MaxInt - 1, math.MaxInt}
}

func someIDs() [][]string {
	return [][]string{nil, {}, {ann}, {bob}, {ann, bob}, {"", "x"}, {"y", "x", "world"}}
}

func trees() []*tree.Tree {
	return []*tree.Tree{tree.New(), made(), odd(), filled(63, 0), filled(64, 31), filled(65, 0), filled(40, 31), filled(40, 32), filled(40, 33)}
}

func someRows() [][]api.Acl {
	one := api.Acl{Perms: 31, ID: "world"}
	return [][]api.Acl{nil, {}, {one}, {{Perms: 1, ID: ann}, one, {Perms: 30, ID: bob}, one}, {one, one, one, one, one}, {{Perms: 0, ID: "world"}}, {{Perms: 32, ID: "world"}}, {one, {Perms: 1, ID: "ann"}}}
}

// anyRequest is one of any kind, more often than not such as may be.
func anyRequest(r *rand.Rand, deep int) api.Request {
	from := right()
	if r.Intn(20) == 0 {
		from = wrong()
	}
	q := api.Request{Kind: 1 + r.Intn(8), Xid: r.Intn(9), Path: from[r.Intn(len(from))], Data: strings.Repeat("d", r.Intn(3)), Acl: someRows()[2+r.Intn(2)], Flags: r.Intn(4), Version: r.Intn(7) - 1, Watch: r.Intn(2) == 0}
	if r.Intn(3) > 0 {
		q.Version = -1
	}
	switch r.Intn(40) {
	case 0:
		q.Data = strings.Repeat("d", 99+r.Intn(3))
	case 1:
		q.Acl = someRows()[r.Intn(len(someRows()))]
	case 2:
		q.Flags = r.Intn(9) - 3
	case 3:
		q.Kind = r.Intn(20) - 2
	}
	if deep > 0 {
		for range []int{0, 1, 1, 2, 2, 2, 3, 4, 8, 9}[r.Intn(10)] {
			sub := anyRequest(r, deep-1)
			if r.Intn(10) > 0 {
				sub.Kind = 1 + r.Intn(5)
			}
			q.Subs = append(q.Subs, sub)
		}
	}
	return q
}
