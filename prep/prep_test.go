package prep_test

import (
	"fmt"
	"math"
	"math/rand"
	"slices"
	"strings"
	"testing"

	"arboretum/api"
	"arboretum/prep"
	"arboretum/tree"
)

func TestExamples(t *testing.T) {
	x := tree.New()
	x.LaySession(7, 10, "s")
	becomes(t, x, 7, nil, api.Request{Kind: 1, Path: "/a", Data: "x", Acl: all()}, api.Txn{Kind: 1, Path: "/a", Data: "x", Acl: all(), Number: 1})
	becomes(t, x, 7, nil, api.Request{Kind: 1, Path: "/q-", Acl: all(), Flags: 3}, api.Txn{Kind: 1, Path: "/q-0000000000", Acl: all(), Owner: 7, Number: 1})
	refuses(t, x, 7, nil, api.Request{Kind: 1, Path: "/a/b", Acl: all()}, api.ErrTreeNone, -1)
	refuses(t, x, 7, nil, api.Request{Kind: 1, Path: "/", Acl: all()}, api.ErrTreeNone, -1)
	refuses(t, x, 8, nil, api.Request{Kind: 1, Path: "/a", Acl: all()}, api.ErrTreeGone, -1)
	refuses(t, x, 7, nil, api.Request{Kind: 9, Path: "/a"}, api.ErrPrepKind, -1)

	multi := api.Request{Kind: 6, Subs: []api.Request{{Kind: 1, Path: "/a", Acl: all()}, {Kind: 5, Path: "/a"}, {Kind: 2, Path: "/b"}}}
	refuses(t, x, 7, nil, multi, api.ErrTreeNone, 2)
	r := replies(t, x, api.Entry{Zxid: 6, Session: 7, Xid: 5, Txn: prep.Txn(x, 7, nil, multi)})
	if !sameReply(r, api.Reply{Xid: 5, Zxid: 6, Err: 60, Subs: []api.Reply{{Err: 111}, {Err: 111}, {Err: 60}}}) {
		t.Errorf("Reply: %s", brief(r))
	}
}

func TestF1(t *testing.T) {
	changes := []int{api.ReqCreate, api.ReqDelete, api.ReqSet, api.ReqSetAcl, api.ReqMulti, api.ReqSync, api.ReqClose}
	for _, kind := range numbers() {
		for d := range 600 {
			if got := prep.Changes(kind + d - 300); got != slices.Contains(changes, kind+d-300) {
				t.Errorf("Changes(%d): %t", kind+d-300, got)
			}
		}
	}
}

// TestF2First: no tree, a kind that changes nothing, no such session: the first of them that holds, whatever else is wrong.
func TestF2First(t *testing.T) {
	x := made()
	for kind := -3; kind < 300; kind++ {
		for _, session := range numbers() {
			for _, p := range []string{"/n", "", "/", "/a/e"} {
				r := api.Request{Kind: kind, Path: p, Acl: all(), Version: -1}
				refuses(t, nil, session, nil, r, api.ErrArg, -1)
				asks(t, x, session, nil, r)
				changes := kind >= 1 && kind <= 8 && kind != 5
				is := session == 7 || session == 9 || session == 1<<40
				if !changes {
					refuses(t, x, session, nil, r, api.ErrPrepKind, -1)
				} else if !is {
					refuses(t, x, session, nil, r, api.ErrTreeGone, -1)
				}
			}
		}
	}
	for _, kind := range numbers() {
		asks(t, x, 7, nil, api.Request{Kind: kind, Path: "/n", Acl: all(), Subs: []api.Request{{Kind: kind, Path: "/n", Acl: all()}}})
	}
}

// TestF2CreateOrder: each error ahead of all that stand behind it in the table, as many of them as can hold at once.
func TestF2CreateOrder(t *testing.T) {
	long, x := strings.Repeat("d", 101), made()
	deep := "/a/e/" + strings.Repeat("x", 55) // by its number it is too long
	for _, c := range []struct {
		r api.Request
		e api.Errno
	}{
		{api.Request{Path: "/a/e/f/", Data: long, Flags: 7}, api.ErrPathForm},
		{api.Request{Path: deep + "x", Data: long, Flags: 7}, api.ErrPathLong},
		{api.Request{Path: "/none/f", Data: long}, api.ErrArg},
		{api.Request{Path: "/none/f", Flags: 4}, api.ErrArg},
		{api.Request{Path: deep, Data: long, Flags: 3}, api.ErrArg},
		{api.Request{Path: "/none/f"}, api.ErrAclForm},
		{api.Request{Path: deep, Flags: 3}, api.ErrAclForm},
		{api.Request{Path: "/"}, api.ErrAclForm},
		{api.Request{Path: "/none/" + strings.Repeat("x", 54), Acl: all(), Flags: 3}, api.ErrTreeNone},
		{api.Request{Path: "/", Acl: all(), Flags: 2}, api.ErrTreeNone},
		{api.Request{Path: deep, Acl: all(), Flags: 3}, api.ErrTreeOwned},
		{api.Request{Path: "/a/" + strings.Repeat("x", 57), Acl: all(), Flags: 3}, api.ErrTreeAuth},
		{api.Request{Path: "/a/e", Acl: all()}, api.ErrTreeAuth},
		{api.Request{Path: "/v/" + strings.Repeat("x", 57), Acl: all(), Flags: 3}, api.ErrPathLong},
		{api.Request{Path: "/a", Acl: all(), Flags: 1}, api.ErrTreeThere},
	} {
		c.r.Kind = 1
		refuses(t, x, 7, nil, c.r, c.e, -1)
		refuses(t, x, 7, nil, api.Request{Kind: 6, Subs: []api.Request{c.r}}, c.e, 0)
	}
	// What an ephemeral's ACL does not allow: that it is owned is told ahead.
	x.Lay("/a/e", "", rows(1, "world"), api.Stat{Owner: 9})
	refuses(t, x, 7, nil, api.Request{Kind: 1, Path: "/a/e/f", Acl: all()}, api.ErrTreeOwned, -1)
	// A node that is there, where there is no room for one more; and one that is not.
	full := filled(64, 32)
	refuses(t, full, 7, nil, api.Request{Kind: 1, Path: "/n01", Acl: all()}, api.ErrTreeThere, -1)
	refuses(t, full, 7, nil, api.Request{Kind: 1, Path: "/" + strings.Repeat("x", 50), Acl: all(), Flags: 2}, api.ErrPathLong, -1)
	refuses(t, full, 7, nil, api.Request{Kind: 1, Path: "/n99", Acl: all()}, api.ErrTreeFull, -1)
}

// TestF2CreateEdges: each limit, and one beyond it.
func TestF2CreateEdges(t *testing.T) {
	x := made()
	x.Lay("/v", "", all(), api.Stat{Cversion: 4})
	takes := func(r api.Request, want api.Txn) {
		t.Helper()
		r.Kind, want.Kind = 1, 1
		if r.Acl == nil {
			r.Acl = all()
		}
		want.Data, want.Acl = r.Data, r.Acl
		becomes(t, x, 9, nil, r, want)
	}
	errs := func(r api.Request, e api.Errno) {
		t.Helper()
		r.Kind = 1
		if r.Acl == nil {
			r.Acl = all()
		}
		refuses(t, x, 9, nil, r, e, -1)
	}
	takes(api.Request{Path: "/v/n", Data: strings.Repeat("d", 100)}, api.Txn{Path: "/v/n", Number: 5})
	takes(api.Request{Path: "/v/n", Data: strings.Repeat("ä", 50)}, api.Txn{Path: "/v/n", Number: 5})
	errs(api.Request{Path: "/v/n", Data: strings.Repeat("ä", 51)}, api.ErrArg)
	errs(api.Request{Path: "/v/n", Data: strings.Repeat("d", 1<<20)}, api.ErrArg)
	for _, flags := range append(numbers(), -3, 4, 6, 256, 257, 1<<32+2) {
		switch {
		case flags == 0:
			takes(api.Request{Path: "/v/n", Flags: flags}, api.Txn{Path: "/v/n", Number: 5})
		case flags == 1:
			takes(api.Request{Path: "/v/n", Flags: flags}, api.Txn{Path: "/v/n", Owner: 9, Number: 5})
		case flags == 2:
			takes(api.Request{Path: "/v/n", Flags: flags}, api.Txn{Path: "/v/n0000000004", Number: 5})
		case flags == 3:
			takes(api.Request{Path: "/v/n", Flags: flags}, api.Txn{Path: "/v/n0000000004", Owner: 9, Number: 5})
		default:
			errs(api.Request{Path: "/v/n", Flags: flags}, api.ErrArg)
		}
	}
	for i, l := range someRows() {
		if i < 2 || i > 3 {
			refuses(t, x, 9, nil, api.Request{Kind: 1, Path: "/v/n", Acl: l}, api.ErrAclForm, -1)
		} else {
			takes(api.Request{Path: "/v/n", Acl: l}, api.Txn{Path: "/v/n", Number: 5})
		}
	}
	most, number := "/v/"+strings.Repeat("x", 47), "0000000004"
	takes(api.Request{Path: most, Flags: 2}, api.Txn{Path: most + number, Number: 5})
	errs(api.Request{Path: most + "x", Flags: 2}, api.ErrPathLong)
	takes(api.Request{Path: most + number}, api.Txn{Path: most + number, Number: 5})
	errs(api.Request{Path: most + number + "x"}, api.ErrPathLong)
	// A Version says nothing of it, and neither do Watch, Xid, Subs and Armed.
	takes(api.Request{Path: "/o/p/q", Version: 3, Watch: true, Xid: 5, Subs: make([]api.Request, 9), Armed: make([]api.Armed, 3)}, api.Txn{Path: "/o/p/q", Number: 1})
	errs(api.Request{Path: "/o/q"}, api.ErrTreeNone)
	// What is there with the number, and without it.
	x.Lay("/v/q-0000000004", "", all(), api.Stat{})
	x.Lay("/v/p-", "", all(), api.Stat{})
	errs(api.Request{Path: "/v/q-", Flags: 2}, api.ErrTreeThere)
	takes(api.Request{Path: "/v/q-"}, api.Txn{Path: "/v/q-", Number: 5})
	takes(api.Request{Path: "/v/p-", Flags: 2}, api.Txn{Path: "/v/p-0000000004", Number: 5})
	errs(api.Request{Path: "/v/p-"}, api.ErrTreeThere)
}

// TestF2CreateFull: 64 nodes in all, 32 of one session.
func TestF2CreateFull(t *testing.T) {
	for nodes := 60; nodes < 68; nodes++ {
		for _, owned := range []int{0, 30, 31, 32, 33, 50} {
			for flags := range 4 {
				for _, session := range []int{7, 9} {
					x := filled(nodes, owned)
					r := api.Request{Kind: 1, Path: "/m", Acl: all(), Flags: flags}
					if nodes >= 64 || owned >= 32 && session == 7 && flags%2 == 1 {
						refuses(t, x, session, nil, r, api.ErrTreeFull, -1)
						refuses(t, x, session, nil, api.Request{Kind: 6, Subs: []api.Request{r}}, api.ErrTreeFull, 0)
					} else if got := asks(t, x, session, nil, r); got.Kind != api.TxnCreate || got.Owner != flags%2*session {
						t.Errorf("of %d nodes, %d owned: %s", nodes, owned, brief(got))
					}
				}
			}
		}
	}
}

// TestF2Numbered: Cversions of all sizes, and one more of them.
func TestF2Numbered(t *testing.T) {
	for _, c := range []struct {
		cversion int
		digits   string
		number   int
	}{
		{0, "0000000000", 1}, {9, "0000000009", 10}, {1234567890, "1234567890", 1234567891}, {9999999999, "9999999999", 10000000000}, {10000000000, "0000000000", 10000000001},
		{12345678901, "2345678901", 12345678902}, {-1, "0000000000", 0}, {-5, "0000000000", -4}, {math.MinInt, "0000000000", math.MinInt + 1}, {math.MaxInt, "6854775807", math.MinInt},
	} {
		x := made()
		x.Lay("/v", "", all(), api.Stat{Cversion: c.cversion})
		becomes(t, x, 7, nil, api.Request{Kind: 1, Path: "/v/q-", Acl: all(), Flags: 2}, api.Txn{Kind: 1, Path: "/v/q-" + c.digits, Acl: all(), Number: c.number})
		becomes(t, x, 7, nil, api.Request{Kind: 1, Path: "/v/q-", Acl: all()}, api.Txn{Kind: 1, Path: "/v/q-", Acl: all(), Number: c.number})
		x.Lay("/v/q", "", all(), api.Stat{Version: c.cversion, Aversion: c.cversion, Cversion: 77})
		becomes(t, x, 7, nil, api.Request{Kind: 2, Path: "/v/q", Version: -1}, api.Txn{Kind: 2, Path: "/v/q", Number: c.number})
		becomes(t, x, 7, nil, api.Request{Kind: 3, Path: "/v/q", Version: -1}, api.Txn{Kind: 3, Path: "/v/q", Number: c.number})
		becomes(t, x, 7, nil, api.Request{Kind: 4, Path: "/v/q", Version: -1, Acl: all()}, api.Txn{Kind: 4, Path: "/v/q", Acl: all(), Number: c.number})
	}
}

// TestF2Delete: each error ahead of those behind it.
func TestF2Delete(t *testing.T) {
	x := made()
	x.Lay("/v/k", "", nil, api.Stat{Version: 2})
	x.Lay("/v/k/k", "", all(), api.Stat{})
	x.Lay("/r/k", "", all(), api.Stat{Version: 2})
	x.Lay("/r/k/k", "", all(), api.Stat{})
	for _, c := range []struct {
		p       string
		version int
		e       api.Errno
	}{
		{"", -1, api.ErrPathForm}, {"/v/", 9, api.ErrPathForm}, {"/a/b/c/d/e/f/g", -1, api.ErrPathLong},
		{"/", -1, api.ErrArg}, {"/", 9, api.ErrArg},
		{"/none", 9, api.ErrTreeNone}, {"/a/none", 9, api.ErrTreeNone}, {"/o", -1, api.ErrTreeNone},
		{"/r/k", 9, api.ErrTreeAuth}, {"/r/k", 2, api.ErrTreeAuth}, {"/r/k", -1, api.ErrTreeAuth}, {"/a/e", 0, api.ErrTreeAuth}, {"/o/p", 9, api.ErrTreeAuth}, {"/o/p", -1, api.ErrTreeAuth},
		{"/v/k", 1, api.ErrTreeStale}, {"/v/k", 0, api.ErrTreeStale}, {"/v/k", 3, api.ErrTreeStale}, {"/v/k", -2, api.ErrTreeStale}, {"/v/k", math.MaxInt, api.ErrTreeStale}, {"/v/k", 1<<32 + 2, api.ErrTreeStale},
		{"/v/k", 2, api.ErrTreeKids}, {"/v/k", -1, api.ErrTreeKids}, {"/r", -1, api.ErrTreeKids}, {"/a", 0, api.ErrTreeKids},
	} {
		refuses(t, x, 7, nil, api.Request{Kind: 2, Path: c.p, Version: c.version}, c.e, -1)
	}
	// At the parent, not at the node; and what lies under it without a parent is no kid.
	becomes(t, x, 7, []string{ann}, api.Request{Kind: 2, Path: "/a/k", Version: 0}, api.Txn{Kind: 2, Path: "/a/k", Number: 4})
	x.Lay("/v/y", "", nil, api.Stat{})
	becomes(t, x, 7, nil, api.Request{Kind: 2, Path: "/v/y", Data: strings.Repeat("d", 200), Flags: 9, Acl: rows(0, "")}, api.Txn{Kind: 2, Path: "/v/y", Number: 5})
	x.Lay("/v/z/z/z", "", all(), api.Stat{})
	x.Lay("/v/z", "", all(), api.Stat{})
	becomes(t, x, 7, nil, api.Request{Kind: 2, Path: "/v/z", Version: -1}, api.Txn{Kind: 2, Path: "/v/z", Number: 5})
}

// TestF2Set: each error ahead of those behind it; and what a version fits.
func TestF2Set(t *testing.T) {
	x, long := made(), strings.Repeat("d", 101)
	x.Lay("/w", "", rows(29, "world"), api.Stat{Version: 3, Cversion: 4, Aversion: 5})
	for _, c := range []struct {
		p, data string
		version int
		e       api.Errno
	}{
		{"w", long, 9, api.ErrPathForm}, {"/none", long, 9, api.ErrArg}, {"/w", long, 9, api.ErrArg}, {"/none", "d", 9, api.ErrTreeNone}, {"/o", "d", -1, api.ErrTreeNone},
		{"/w", "d", 9, api.ErrTreeAuth}, {"/w", "d", 3, api.ErrTreeAuth}, {"/w", "d", -1, api.ErrTreeAuth},
		{"/v", "d", 2, api.ErrTreeStale}, {"/v", "d", 4, api.ErrTreeStale}, {"/v", "d", 5, api.ErrTreeStale}, {"/v", "d", 0, api.ErrTreeStale}, {"/v", "d", -2, api.ErrTreeStale}, {"/v", "d", -3, api.ErrTreeStale},
	} {
		refuses(t, x, 7, nil, api.Request{Kind: 3, Path: c.p, Data: c.data, Version: c.version}, c.e, -1)
	}
	for _, data := range []string{"", "d", strings.Repeat("d", 100), strings.Repeat("€", 33)} {
		for _, version := range []int{-1, 3} {
			becomes(t, x, 7, nil, api.Request{Kind: 3, Path: "/v", Data: data, Version: version, Flags: 9, Acl: rows(0, "")}, api.Txn{Kind: 3, Path: "/v", Data: data, Number: 4})
		}
	}
	becomes(t, x, 7, nil, api.Request{Kind: 3, Path: "/", Data: "d"}, api.Txn{Kind: 3, Path: "/", Data: "d", Number: 1})
	becomes(t, x, 9, nil, api.Request{Kind: 3, Path: "/a/e", Data: "d"}, api.Txn{Kind: 3, Path: "/a/e", Data: "d", Number: 1})
	becomes(t, x, 9, nil, api.Request{Kind: 3, Path: "/o/p", Data: "d"}, api.Txn{Kind: 3, Path: "/o/p", Data: "d", Number: 1})
}

func TestF2SetAcl(t *testing.T) {
	x := made()
	x.Lay("/w", "", rows(15, "world"), api.Stat{Version: 3, Cversion: 4, Aversion: 5})
	for _, c := range []struct {
		p       string
		rows    []api.Acl
		version int
		e       api.Errno
	}{
		{"w", nil, 9, api.ErrPathForm}, {"/none", nil, 9, api.ErrAclForm}, {"/w", rows(32, "world"), 9, api.ErrAclForm}, {"/none", all(), 9, api.ErrTreeNone}, {"/o", all(), -1, api.ErrTreeNone},
		{"/w", all(), 9, api.ErrTreeAuth}, {"/w", all(), 5, api.ErrTreeAuth}, {"/w", all(), -1, api.ErrTreeAuth}, {"/a", all(), 0, api.ErrTreeAuth},
		{"/v", all(), 3, api.ErrTreeStale}, {"/v", all(), 4, api.ErrTreeStale}, {"/v", all(), 6, api.ErrTreeStale}, {"/v", all(), 0, api.ErrTreeStale}, {"/v", all(), -2, api.ErrTreeStale},
	} {
		refuses(t, x, 7, nil, api.Request{Kind: 4, Path: c.p, Acl: c.rows, Version: c.version}, c.e, -1)
	}
	for i, l := range someRows() {
		r := api.Request{Kind: 4, Path: "/v", Acl: l, Version: 5, Data: strings.Repeat("d", 101), Flags: 9}
		if i < 2 || i > 3 {
			refuses(t, x, 7, nil, r, api.ErrAclForm, -1)
		} else {
			becomes(t, x, 7, nil, r, api.Txn{Kind: 4, Path: "/v", Acl: l, Number: 6})
		}
	}
	becomes(t, x, 7, nil, api.Request{Kind: 4, Path: "/", Acl: all()}, api.Txn{Kind: 4, Path: "/", Acl: all(), Number: 1})
}

// TestF2Permissions: each kind asks for one permission, at one node, and for no other.
func TestF2Permissions(t *testing.T) {
	for perms := range 32 {
		for _, id := range []string{ann, "world"} {
			for _, ids := range someIDs() {
				for _, at := range []string{"/v", "/v/k"} {
					x := made()
					x.Lay("/v/k", "", nil, api.Stat{})
					s, _ := x.Stat(at)
					x.Lay(at, "", rows(perms, id), s)
					has := id == "world" || slices.Contains(ids, ann)
					for _, c := range []struct {
						r    api.Request
						at   string
						perm int
					}{
						{api.Request{Kind: 1, Path: "/v/n", Acl: all()}, "/v", 4},
						{api.Request{Kind: 2, Path: "/v/k"}, "/v", 8},
						{api.Request{Kind: 3, Path: "/v/k"}, "/v/k", 2},
						{api.Request{Kind: 4, Path: "/v/k", Acl: all()}, "/v/k", 16},
						{api.Request{Kind: 5, Path: "/v/k"}, "/v/k", 1},
					} {
						other := c.at != at && c.at == "/v" // by all
						may := other || c.at == at && has && perms&c.perm != 0
						y := asks(t, x, 7, ids, api.Request{Kind: 6, Subs: []api.Request{c.r}})
						if (y.Kind == api.TxnMulti) != may || !may && y.Err != api.ErrTreeAuth {
							t.Errorf("kind %d at %q of perms %d %s, ids %q: %s", c.r.Kind, at, perms, id, ids, brief(y))
						}
					}
				}
			}
		}
	}
}

// TestF2AnyPart: every path, with what is at an edge, on every tree.
func TestF2AnyPart(t *testing.T) {
	datas := []string{"", strings.Repeat("d", 100), strings.Repeat("d", 101)}
	versions := []int{math.MinInt, -3, -2, -1, 0, 3, 4, 5, 1<<32 + 3, math.MaxInt}
	for _, x := range trees() {
		x.LaySession(7, 10, "")
		was, sessions := x.Clone(), x.Sessions()
		for i, p := range texts() {
			for kind := 1; kind <= 5; kind++ {
				for k, l := range someRows() {
					for m, version := range versions {
						r := api.Request{Kind: kind, Xid: m, Path: p, Data: datas[(i+k+m)%3], Acl: l, Flags: (i+k+m)%6 - 1, Version: version}
						if (i+m)%4 > 0 {
							r.Data, r.Flags = datas[(i+m)%2], (i+k)%4
						}
						ids := someIDs()[(i+k+m)%7]
						session := sessions[m%len(sessions)]
						asks(t, x, session, ids, r)
						if kind == 5 {
							asks(t, x, session, ids, api.Request{Kind: 6, Subs: []api.Request{r}})
						}
					}
				}
			}
		}
		if !x.Same(was) {
			t.Fatal("Txn changes the tree")
		}
	}
}

// TestF2Multi: how many, which kinds, and the number of the part that is refused.
func TestF2Multi(t *testing.T) {
	x := made()
	sub := api.Request{Kind: 5, Path: "/a", Version: -1}
	for n := range 300 {
		r := api.Request{Kind: 6, Path: "wrong", Flags: 9, Subs: slices.Repeat([]api.Request{sub}, n)}
		if n < 1 || n > 8 {
			refuses(t, x, 7, nil, r, api.ErrArg, -1)
			continue
		}
		becomes(t, x, 7, nil, r, api.Txn{Kind: 7, Subs: make([]api.Txn, n)})
		for i := range n {
			bad := slices.Clone(r.Subs)
			bad[i].Path = "/none"
			refuses(t, x, 7, nil, api.Request{Kind: 6, Subs: bad}, api.ErrTreeNone, i)
			bad[n-1].Path = "wrong"
			if i < n-1 {
				refuses(t, x, 7, nil, api.Request{Kind: 6, Subs: bad}, api.ErrTreeNone, i)
			}
			for _, kind := range append(numbers(), 6, 7, 8, 9, 10, 11, 12, 13, 14, 15) {
				if kind >= 1 && kind <= 5 {
					continue
				}
				bad := slices.Clone(r.Subs)
				bad[i] = api.Request{Kind: kind, Path: "/none", Subs: []api.Request{sub}}
				refuses(t, x, 7, nil, api.Request{Kind: 6, Subs: bad}, api.ErrPrepKind, i)
			}
		}
	}
	// How many there are is told ahead of what they are.
	refuses(t, x, 7, nil, api.Request{Kind: 6, Subs: make([]api.Request, 9)}, api.ErrArg, -1)
	refuses(t, x, 7, nil, api.Request{Kind: 6, Subs: make([]api.Request, 8)}, api.ErrPrepKind, 0)
	// What a part has of parts is not asked for.
	becomes(t, x, 7, nil, api.Request{Kind: 6, Subs: []api.Request{{Kind: 3, Path: "/v", Version: 3, Subs: make([]api.Request, 20)}}}, api.Txn{Kind: 7, Subs: []api.Txn{{Kind: 3, Path: "/v", Number: 4}}})
}

// TestF2MultiGoesOn: each part is asked of the tree that has those ahead.
func TestF2MultiGoesOn(t *testing.T) {
	x := made()
	create := func(p string, flags int) api.Request {
		return api.Request{Kind: 1, Path: p, Acl: all(), Flags: flags}
	}
	goes := func(want []api.Txn, l ...api.Request) {
		t.Helper()
		becomes(t, x, 7, []string{bob}, api.Request{Kind: 6, Subs: l}, api.Txn{Kind: 7, Subs: want})
	}
	stops := func(e api.Errno, l ...api.Request) {
		t.Helper()
		refuses(t, x, 7, []string{bob}, api.Request{Kind: 6, Subs: l}, e, len(l)-1)
	}
	made := func(p string, owner, number int) api.Txn {
		return api.Txn{Kind: 1, Path: p, Acl: all(), Owner: owner, Number: number}
	}
	goes([]api.Txn{made("/b", 0, 5), made("/b/c", 0, 1), made("/b/d", 0, 2), {Kind: 2, Path: "/b/c", Number: 3}, {Kind: 2, Path: "/b/d", Number: 4}, {Kind: 2, Path: "/b", Number: 6}, made("/b", 7, 7)},
		create("/b", 0), create("/b/c", 0), create("/b/d", 0), api.Request{Kind: 2, Path: "/b/c"}, api.Request{Kind: 2, Path: "/b/d"}, api.Request{Kind: 2, Path: "/b"}, create("/b", 1))
	goes([]api.Txn{made("/v/q-0000000004", 0, 5), made("/v/q-0000000005", 7, 6), made("/v/q-0000000006", 0, 7)}, create("/v/q-", 2), create("/v/q-", 3), create("/v/q-", 2))
	set := func(version int) api.Request { return api.Request{Kind: 3, Path: "/v", Version: version} }
	acl := func(l []api.Acl, version int) api.Request {
		return api.Request{Kind: 4, Path: "/v", Acl: l, Version: version}
	}
	check := func(version int) api.Request { return api.Request{Kind: 5, Path: "/v", Version: version} }
	goes([]api.Txn{{}, {Kind: 3, Path: "/v", Number: 4}, {}, {Kind: 3, Path: "/v", Number: 5}, {}, {Kind: 4, Path: "/v", Acl: all(), Number: 6}, {Kind: 4, Path: "/v", Acl: all(), Number: 7}},
		check(3), set(3), check(4), set(4), check(5), acl(all(), 5), acl(all(), 6))
	stops(api.ErrTreeStale, set(3), set(3))
	stops(api.ErrTreeStale, set(3), check(3))
	stops(api.ErrTreeStale, acl(all(), 5), acl(all(), 5))
	stops(api.ErrTreeThere, create("/b", 0), create("/b", 0))
	stops(api.ErrTreeOwned, create("/b", 1), create("/b/c", 0))
	stops(api.ErrTreeKids, create("/b", 0), create("/b/c", 0), api.Request{Kind: 2, Path: "/b"})
	stops(api.ErrTreeNone, create("/b", 0), api.Request{Kind: 2, Path: "/b"}, create("/b/c", 0))
	stops(api.ErrTreeNone, create("/b", 0), api.Request{Kind: 2, Path: "/b"}, api.Request{Kind: 2, Path: "/b"})
	// Whoever takes his own permissions away has them no more; whoever gives them to himself has them.
	none := rows(1, "world")
	stops(api.ErrTreeAuth, acl(none, -1), create("/v/n", 0))
	stops(api.ErrTreeAuth, acl(none, -1), set(-1))
	stops(api.ErrTreeAuth, acl(none, -1), acl(all(), -1))
	stops(api.ErrTreeAuth, create("/v/n", 0), acl(none, -1), api.Request{Kind: 2, Path: "/v/n"})
	stops(api.ErrTreeAuth, acl(rows(30, "world"), -1), check(-1))
	goes([]api.Txn{{Kind: 4, Path: "/v", Acl: rows(31, bob), Number: 6}, {Kind: 3, Path: "/v", Number: 4}, {}}, acl(rows(31, bob), 5), set(3), check(4))
}

// TestF2MultiFull: what the parts ahead make counts, and so does what they take away.
func TestF2MultiFull(t *testing.T) {
	for _, c := range []struct{ nodes, owned, flags int }{{60, 0, 0}, {60, 0, 1}, {60, 0, 3}, {40, 28, 1}, {40, 28, 3}, {60, 28, 3}} {
		x := filled(c.nodes, c.owned)
		l := []api.Request{}
		for i := range 8 {
			l = append(l, api.Request{Kind: 1, Path: fmt.Sprintf("/m%d-", i), Acl: all(), Flags: c.flags})
		}
		refuses(t, x, 7, nil, api.Request{Kind: 6, Subs: l}, api.ErrTreeFull, 4)
		if got := asks(t, x, 7, nil, api.Request{Kind: 6, Subs: l[:4]}); len(got.Subs) != 4 {
			t.Errorf("of %d nodes, %d owned: %s", c.nodes, c.owned, brief(got))
		}
		l[3] = api.Request{Kind: 2, Path: "/n01"}
		refuses(t, x, 7, nil, api.Request{Kind: 6, Subs: l}, api.ErrTreeFull, 6)
	}
	x := filled(64, 32)
	swap := []api.Request{{Kind: 2, Path: "/n01"}, {Kind: 1, Path: "/m", Acl: all(), Flags: 1}}
	becomes(t, x, 7, nil, api.Request{Kind: 6, Subs: swap}, api.Txn{Kind: 7, Subs: []api.Txn{{Kind: 2, Path: "/n01", Number: 1}, {Kind: 1, Path: "/m", Acl: all(), Owner: 7, Number: 2}}})
	refuses(t, x, 7, nil, api.Request{Kind: 6, Subs: []api.Request{swap[1], swap[0]}}, api.ErrTreeFull, 0)
}

func TestF2Sync(t *testing.T) {
	for _, x := range trees()[1:] {
		for _, p := range texts() {
			becomes(t, x, 7, nil, api.Request{Kind: 7, Xid: 3, Path: p, Data: strings.Repeat("d", 101), Flags: 9, Version: 8, Subs: make([]api.Request, 9)}, api.Txn{})
		}
	}
}

// TestF2Close: falling paths, each number behind those ahead; whatever else the request says.
func TestF2Close(t *testing.T) {
	x := made()
	for _, p := range []string{"/a/e2", "/a-", "/b", "/v/e", "/v/f"} {
		x.Lay(p, "d", rows(1, bob), api.Stat{Owner: 7, Version: 9})
	}
	x.Lay("/v/g", "", all(), api.Stat{Owner: 9})
	gone := func(l ...any) []api.Txn {
		subs := []api.Txn{}
		for i := 0; i < len(l); i += 2 {
			subs = append(subs, api.Txn{Kind: 2, Path: l[i].(string), Number: l[i+1].(int)})
		}
		return subs
	}
	for _, r := range []api.Request{{Kind: 8}, {Kind: 8, Path: "/v", Version: 3, Flags: 9, Data: strings.Repeat("d", 101), Acl: rows(0, ""), Subs: []api.Request{{Kind: 2, Path: "/v"}}}} {
		becomes(t, x, 7, nil, r, api.Txn{Kind: 6, Owner: 7, Subs: gone("/v/f", 5, "/v/e", 6, "/b", 5, "/a/e2", 4, "/a/e", 5, "/a-", 6)})
		becomes(t, x, 9, nil, r, api.Txn{Kind: 6, Owner: 9, Subs: gone("/v/g", 5)})
		becomes(t, x, 1<<40, nil, r, api.Txn{Kind: 6, Owner: 1 << 40})
		refuses(t, x, 8, nil, r, api.ErrTreeGone, -1)
		refuses(t, x, 0, nil, r, api.ErrTreeGone, -1)
		refuses(t, x, 7, nil, api.Request{Kind: 6, Subs: []api.Request{r}}, api.ErrPrepKind, 0)
	}
	// Owned nodes below others, without a parent, at the end of numbers; and the root.
	becomes(t, odd(), 7, nil, api.Request{Kind: 8}, api.Txn{Kind: 6, Owner: 7,
		Subs: gone("/max/f", math.MinInt, "/max/e", math.MinInt+1, "/max", math.MinInt, "/far/off", 1, "/far/away", 1, "/", 1)})
	becomes(t, odd(), 3, nil, api.Request{Kind: 8}, api.Txn{Kind: 6, Owner: 3, Subs: gone("/far/off/x", 1)})
	for _, x := range trees() {
		for _, session := range append(x.Sessions(), numbers()...) {
			asks(t, x, session, nil, api.Request{Kind: 8})
		}
	}
	if got := asks(t, filled(64, 63), 7, nil, api.Request{Kind: 8}); len(got.Subs) != 63 {
		t.Errorf("of 63 owned: %d", len(got.Subs))
	}
}

func TestF2Any(t *testing.T) {
	r := rand.New(rand.NewSource(1))
	l, told := trees(), map[int]int{}
	for range 60000 {
		x := l[r.Intn(len(l))]
		if r.Intn(200) == 0 {
			x = nil
		}
		session := r.Intn(10)
		if x != nil && len(x.Sessions()) > 0 && r.Intn(20) > 0 {
			session = x.Sessions()[r.Intn(len(x.Sessions()))]
		}
		y := asks(t, x, session, someIDs()[r.Intn(7)], anyRequest(r, 2))
		told[y.Kind]++
		told[1000+int(y.Err)]++
		if t.Failed() {
			return
		}
	}
	for _, n := range []int{0, 1, 2, 3, 4, 6, 7, 8, 1001, 1040, 1041, 1050, 1060, 1061, 1062, 1063, 1064, 1065, 1066, 1067, 1110} {
		if told[n] < 50 {
			t.Errorf("only %d of %d: %v", told[n], n, told)
		}
	}
}
