package tree_test

import (
	"fmt"
	"slices"
	"sort"
	"strings"
	"testing"

	"arboretum/api"
	"arboretum/path"
	"arboretum/tree"
)

// The chapter's words, done step by step: what the package answers is held against it.

// model has its nodes and sessions in lists that are gone through from end to end.
type model struct {
	nodes    []leaf
	sessions []holder
	zxid     int
}

// leaf is a node, its Stat without Length and Kids.
type leaf struct {
	path, data string
	rows       []api.Acl
	stat       api.Stat
}

type holder struct {
	id, timeout int
	secret      string
}

func newModel() *model {
	return &model{nodes: []leaf{{path: "/", rows: []api.Acl{{Perms: 31, ID: "world"}}}}}
}

// at is the place of a node in the list; -1: there is none.
func (m *model) at(p string) int {
	for i, n := range m.nodes {
		if n.path == p {
			return i
		}
	}
	return -1
}

func (m *model) drop(gone func(p string) bool) {
	stay := []leaf{}
	for _, n := range m.nodes {
		if !gone(n.path) {
			stay = append(stay, n)
		}
	}
	m.nodes = stay
}

func (m *model) dropSession(id int) {
	stay := []holder{}
	for _, s := range m.sessions {
		if s.id != id {
			stay = append(stay, s)
		}
	}
	m.sessions = stay
}

func (m *model) lay(p, data string, rows []api.Acl, s api.Stat) {
	if path.Check(p) != api.OK {
		return
	}
	m.drop(func(q string) bool { return q == p })
	s.Length, s.Kids = 0, 0
	m.nodes = append(m.nodes, leaf{p, data, slices.Clone(rows), s})
}

func (m *model) laySession(id, timeout int, secret string) {
	if id <= 0 {
		return
	}
	m.dropSession(id)
	m.sessions = append(m.sessions, holder{id, timeout, secret})
}

func (m *model) create(x api.Txn, z int) []api.Event {
	if path.Check(x.Path) != api.OK || x.Path == "/" {
		return nil
	}
	parent := path.Parent(x.Path)
	if m.at(parent) < 0 {
		return nil
	}
	what := 1
	if m.at(x.Path) >= 0 {
		what = 3
	}
	m.lay(x.Path, x.Data, x.Acl, api.Stat{Czxid: z, Mzxid: z, Pzxid: z, Owner: x.Owner})
	up := &m.nodes[m.at(parent)]
	up.stat.Cversion, up.stat.Pzxid = x.Number, z
	return []api.Event{{Kind: what, Path: x.Path, Zxid: z}, {Kind: 4, Path: parent, Zxid: z}}
}

func (m *model) remove(x api.Txn, z int) []api.Event {
	if path.Check(x.Path) != api.OK || x.Path == "/" {
		return nil
	}
	was := m.at(x.Path) >= 0
	m.drop(func(q string) bool { return q == x.Path })
	m.drop(func(q string) bool { return strings.HasPrefix(q, x.Path+"/") })
	events := []api.Event{}
	if was {
		events = append(events, api.Event{Kind: 2, Path: x.Path, Zxid: z})
	}
	i := m.at(path.Parent(x.Path))
	if i < 0 {
		return events
	}
	up := &m.nodes[i]
	up.stat.Cversion, up.stat.Pzxid = x.Number, z
	if was {
		events = append(events, api.Event{Kind: 4, Path: up.path, Zxid: z})
	}
	return events
}

func (m *model) part(x api.Txn, z int) []api.Event {
	i := m.at(x.Path)
	switch {
	case x.Kind == 1:
		return m.create(x, z)
	case x.Kind == 2:
		return m.remove(x, z)
	case x.Kind == 3 && i >= 0:
		n := &m.nodes[i]
		n.data, n.stat.Version, n.stat.Mzxid = x.Data, x.Number, z
		return []api.Event{{Kind: 3, Path: x.Path, Zxid: z}}
	case x.Kind == 4 && i >= 0:
		n := &m.nodes[i]
		n.rows, n.stat.Aversion = slices.Clone(x.Acl), x.Number
	}
	return nil
}

func (m *model) apply(e api.Entry) ([]api.Event, api.Errno) {
	x, events := e.Txn, []api.Event{}
	m.zxid = e.Zxid
	switch x.Kind {
	case 5:
		m.laySession(x.Owner, x.Number, x.Data)
	case 6, 7:
		for _, sub := range x.Subs {
			if x.Kind == 7 || sub.Kind == 2 {
				events = append(events, m.part(sub, e.Zxid)...)
			}
		}
		if x.Kind == 6 {
			m.dropSession(x.Owner)
		}
	case 8:
		return nil, x.Err
	default:
		events = append(events, m.part(x, e.Zxid)...)
	}
	return events, api.OK
}

func (m *model) kids(p string) []string {
	l := []string{}
	for _, n := range m.nodes {
		if n.path != "/" && path.Kid(p, path.Base(n.path)) == n.path {
			l = append(l, path.Base(n.path))
		}
	}
	sort.Strings(l)
	return l
}

func (m *model) stat(i int) api.Stat {
	n := m.nodes[i]
	s := n.stat
	s.Length, s.Kids = len(n.data), len(m.kids(n.path))
	return s
}

func (m *model) paths(whose func(n leaf) bool) []string {
	l := []string{}
	for _, n := range m.nodes {
		if whose(n) {
			l = append(l, n.path)
		}
	}
	sort.Strings(l)
	return l
}

func (m *model) ids() []int {
	l := []int{}
	for _, s := range m.sessions {
		l = append(l, s.id)
	}
	sort.Ints(l)
	return l
}

// sound: does each part of a transaction find what it needs, when it is done on a copy?
func (m *model) sound(x api.Txn) bool {
	c := &model{nodes: slices.Clone(m.nodes), sessions: slices.Clone(m.sessions)}
	l := []api.Txn{x}
	if x.Kind == 6 || x.Kind == 7 {
		l = x.Subs
	}
	for _, sub := range l {
		is := c.at(sub.Path) >= 0
		switch {
		case x.Kind == 6 && sub.Kind != 2:
			continue // it is not done
		case sub.Kind == 1 && (is || sub.Path == "/" || path.Check(sub.Path) != api.OK || c.at(path.Parent(sub.Path)) < 0):
			return false
		case sub.Kind == 2 && (!is || sub.Path == "/" || len(c.kids(sub.Path)) > 0):
			return false
		case (sub.Kind == 3 || sub.Kind == 4) && !is:
			return false
		}
		c.part(sub, 1)
	}
	return true
}

// pair is a tree and its model, to which the same calls are made.
type pair struct {
	t *testing.T
	x *tree.Tree
	m *model
}

func newPair(t *testing.T) pair {
	t.Helper()
	x := tree.New()
	if x == nil {
		t.Fatal("New: nil")
	}
	return pair{t, x, newModel()}
}

// brief is what is told of a thing in an error, which may be long.
func brief(x any) string {
	s := fmt.Sprintf("%+v", x)
	return s[:min(len(s), 400)]
}

// apply holds what Apply answers against the model, and answers it.
func (p pair) apply(zxid int, x api.Txn) []api.Event {
	p.t.Helper()
	l, e := p.x.Apply(api.Entry{Zxid: zxid, Session: 3, Xid: 4, Txn: x})
	want, we := p.m.apply(api.Entry{Zxid: zxid, Txn: x})
	if !slices.Equal(l, want) || e != we {
		p.t.Errorf("Apply(%d, %s): %s, %d, want %s, %d", zxid, brief(x), brief(l), e, brief(want), we)
	}
	return l
}

func (p pair) lay(at, data string, rows []api.Acl, s api.Stat) {
	p.x.Lay(at, data, rows, s)
	p.m.lay(at, data, rows, s)
}

func (p pair) laySession(id, timeout int, secret string) {
	p.x.LaySession(id, timeout, secret)
	p.m.laySession(id, timeout, secret)
}

func (p pair) layZxid(zxid int) {
	p.x.LayZxid(zxid)
	p.m.zxid = zxid
}

// same holds everything that is told of the tree against the model: of its own nodes, and of texts of which it has mostly none.
func (p pair) same() {
	p.t.Helper()
	if got := p.x.Zxid(); got != p.m.zxid {
		p.t.Errorf("Zxid: %d, want %d", got, p.m.zxid)
	}
	all := p.m.paths(func(leaf) bool { return true })
	if got := p.x.Paths(); !slices.Equal(got, all) {
		p.t.Errorf("Paths: %s, want %s", brief(got), brief(all))
	}
	for _, at := range append(all, texts()...) {
		p.sameNode(at)
	}
	p.sameSessions()
}

func (p pair) sameNode(at string) {
	p.t.Helper()
	data, s, e := p.x.Get(at)
	rows, e2 := p.x.Acl(at)
	kids, e3 := p.x.Kids(at)
	s2, is := p.x.Stat(at)
	i := p.m.at(at)
	if i < 0 {
		if data != "" || s != (api.Stat{}) || len(rows) != 0 || len(kids) != 0 || s2 != s || is || e != 60 || e2 != 60 || e3 != 60 {
			p.t.Errorf("of no node %.80q: %.80q, %+v, %d; %v, %d; %q, %d; %+v, %t", at, data, s, e, rows, e2, kids, e3, s2, is)
		}
		return
	}
	n, want := p.m.nodes[i], p.m.stat(i)
	if data != n.data || s != want || e != api.OK || s2 != want || !is {
		p.t.Errorf("Get(%q): %.80q, %+v, %d; Stat: %+v, %t; want %.80q, %+v", at, data, s, e, s2, is, n.data, want)
	}
	if !slices.Equal(rows, n.rows) || e2 != api.OK {
		p.t.Errorf("Acl(%q): %s, %d, want %s", at, brief(rows), e2, brief(n.rows))
	}
	if !slices.Equal(kids, p.m.kids(at)) || e3 != api.OK {
		p.t.Errorf("Kids(%q): %q, %d, want %q", at, kids, e3, p.m.kids(at))
	}
}

func (p pair) sameSessions() {
	p.t.Helper()
	if got := p.x.Sessions(); !slices.Equal(got, p.m.ids()) {
		p.t.Errorf("Sessions: %v, want %v", got, p.m.ids())
	}
	for _, id := range append(p.m.ids(), numbers()...) {
		want, is := holder{id: id}, false
		for _, s := range p.m.sessions {
			if s.id == id {
				want, is = s, true
			}
		}
		if timeout, secret, got := p.x.Session(id); timeout != want.timeout || secret != want.secret || got != is {
			p.t.Errorf("Session(%d): %d, %q, %t, want %+v, %t", id, timeout, secret, got, want, is)
		}
		owned := p.m.paths(func(n leaf) bool { return n.stat.Owner == id && id != 0 })
		if got := p.x.Owned(id); !slices.Equal(got, owned) {
			p.t.Errorf("Owned(%d): %q, want %q", id, got, owned)
		}
	}
}
