package plain_test

import (
	"fmt"
	"math"
	"slices"
	"testing"

	"arboretum/acl"
	"arboretum/api"
	"arboretum/path"
	"arboretum/plain"
	"arboretum/prep"
	"arboretum/tree"
)

// The chapter's words, done step by step: what the package answers is held against it.

// model has no tree: it makes one anew of its order, whenever it needs one.
type model struct {
	order  []api.Entry
	opened int
	seats  []*seat // by rising sessions
}

// seat is what a session has.
type seat struct {
	session int
	ids     []string
	watches []laid
	events  []api.Event
}

type laid struct {
	kind int
	path string
}

func (m *model) now() *tree.Tree {
	x := tree.New()
	for _, e := range m.order {
		x.Apply(e)
	}
	return x
}

// seat is nil, if there is no such session.
func (m *model) seat(session int) *seat {
	for _, s := range m.seats {
		if s.session == session {
			return s
		}
	}
	return nil
}

func (m *model) put(session, xid int, n api.Txn) api.Entry {
	e := api.Entry{Zxid: 4294967296 + len(m.order) + 1, Session: session, Xid: xid, Txn: n}
	events, _ := m.now().Apply(e)
	m.order = append(m.order, e)
	for _, event := range events {
		for _, s := range m.seats {
			s.hear(event)
		}
	}
	if n.Kind == 6 {
		m.seats = slices.DeleteFunc(m.seats, func(s *seat) bool { return s.session == n.Owner })
	}
	return e
}

func (s *seat) hear(e api.Event) {
	left := []laid{}
	for _, w := range s.watches {
		if !meets(e, w) {
			left = append(left, w)
		}
	}
	if len(left) < len(s.watches) {
		s.events = append(s.events, e)
	}
	s.watches = left
}

func meets(e api.Event, w laid) bool {
	kinds := map[int][]int{1: {2}, 2: {1, 2, 3}, 3: {1, 2}, 4: {3}}
	return w.path == e.Path && slices.Contains(kinds[e.Kind], w.kind)
}

func (s *seat) lay(w laid) api.Errno {
	if slices.Contains(s.watches, w) {
		return 0
	}
	if len(s.watches) == 64 {
		return 91
	}
	s.watches = append(s.watches, w)
	return 0
}

func (m *model) open(timeout int) (int, api.Errno) {
	if len(m.now().Sessions()) == 16 {
		return 0, 91
	}
	if timeout < 4 {
		timeout = 4
	}
	if timeout > 60 {
		timeout = 60
	}
	m.opened++
	m.put(m.opened, 0, api.Txn{Kind: 5, Owner: m.opened, Number: timeout})
	m.seats = append(m.seats, &seat{session: m.opened})
	return m.opened, 0
}

func (m *model) expire(session int) api.Errno {
	if m.seat(session) == nil {
		return 67
	}
	m.put(session, 0, prep.Txn(m.now(), session, nil, api.Request{Kind: 8}))
	return 0
}

func (m *model) call(session int, r api.Request) (api.Reply, api.Errno) {
	s, now := m.seat(session), m.now()
	if s == nil {
		return api.Reply{}, 67
	}
	answer := api.Reply{Xid: r.Xid, Zxid: now.Zxid()}
	switch r.Kind {
	case 1, 2, 3, 4, 6, 7, 8:
		e := m.put(session, r.Xid, prep.Txn(now, session, s.ids, r))
		return prep.Reply(m.now(), e), 0
	case 13:
		answer.Err = s.auth(r.Path, r.Data)
	case 14:
		s.arm(now, r.Armed)
	case 15:
	default:
		return s.read(now, r), 0
	}
	return answer, 0
}

func (s *seat) auth(name, secret string) api.Errno {
	id, e := acl.Digest(name, secret)
	switch {
	case e != 0:
		return e
	case slices.Contains(s.ids, id):
		return 0
	case len(s.ids) == 16:
		return 1
	}
	s.ids = append(s.ids, id)
	return 0
}

func (s *seat) read(now *tree.Tree, r api.Request) api.Reply {
	answer := prep.Read(now, s.ids, r)
	none := r.Kind == 10 && answer.Err == 60
	if !r.Watch || r.Kind < 9 || r.Kind > 11 || answer.Err != 0 && !none {
		return answer
	}
	kind := 1
	if r.Kind == 11 {
		kind = 3
	}
	if none {
		kind = 2
	}
	if e := s.lay(laid{kind, r.Path}); e != 0 {
		return api.Reply{Xid: r.Xid, Zxid: now.Zxid(), Err: e}
	}
	return answer
}

func (s *seat) arm(now *tree.Tree, l []api.Armed) {
	told := []api.Event{}
	for _, a := range l {
		if a.Kind < 1 || a.Kind > 3 || path.Check(a.Path) != 0 {
			continue
		}
		e := happened(now, a)
		if e.Kind == 0 {
			s.lay(laid{a.Kind, a.Path})
		} else if !slices.Contains(told, e) {
			told = append(told, e)
		}
	}
	s.events = append(s.events, told...)
}

// happened is of the kind 0, if nothing has.
func happened(now *tree.Tree, a api.Armed) api.Event {
	st, is := now.Stat(a.Path)
	if a.Kind == 2 {
		if is {
			return api.Event{Kind: 1, Path: a.Path, Zxid: st.Czxid}
		}
		return api.Event{}
	}
	if !is || st.Czxid != a.Czxid {
		return api.Event{Kind: 2, Path: a.Path, Zxid: now.Zxid()}
	}
	if a.Kind == 3 && st.Pzxid != a.Pzxid {
		return api.Event{Kind: 4, Path: a.Path, Zxid: st.Pzxid}
	}
	if a.Kind == 1 && st.Mzxid != a.Mzxid {
		return api.Event{Kind: 3, Path: a.Path, Zxid: st.Mzxid}
	}
	return api.Event{}
}

func (m *model) events(session int) []api.Event {
	s := m.seat(session)
	if s == nil {
		return nil
	}
	l := s.events
	s.events = nil
	return l
}

// pair is a service and its model, to which the same calls are made.
type pair struct {
	t *testing.T
	x *plain.Plain
	m *model
}

// newPair has sessions 1 to that number.
func newPair(t *testing.T, sessions int) pair {
	t.Helper()
	x := plain.New()
	if x == nil {
		t.Fatal("New: nil")
	}
	p := pair{t, x, &model{}}
	for range sessions {
		p.open(10)
	}
	return p
}

func (p pair) open(timeout int) int {
	p.t.Helper()
	got, e := p.x.Open(timeout)
	want, we := p.m.open(timeout)
	if got != want || e != we {
		p.t.Errorf("Open(%d): %d, %d, want %d, %d", timeout, got, e, want, we)
	}
	return got
}

func (p pair) expire(session int) api.Errno {
	p.t.Helper()
	e, want := p.x.Expire(session), p.m.expire(session)
	if e != want {
		p.t.Errorf("Expire(%d): %d, want %d", session, e, want)
	}
	return e
}

func (p pair) call(session int, r api.Request) api.Reply {
	p.t.Helper()
	got, e := p.x.Call(session, r)
	want, we := p.m.call(session, r)
	if !sameReply(got, want) || e != we {
		p.t.Errorf("Call(%d, %s): %s, %d, want %s, %d", session, brief(r), brief(got), e, brief(want), we)
	}
	return got
}

// errs holds that a request is answered with an error, as the test itself says.
func (p pair) errs(session int, r api.Request, want api.Errno) api.Reply {
	p.t.Helper()
	got := p.call(session, r)
	if got.Err != want {
		p.t.Errorf("Call(%d, %s): Err %d, want %d", session, brief(r), got.Err, want)
	}
	return got
}

// nothing holds that a request is answered with an error, and nothing besides.
func (p pair) nothing(session int, r api.Request, want api.Errno) {
	p.t.Helper()
	if got := p.call(session, r); !sameReply(got, api.Reply{Xid: r.Xid, Zxid: 1<<32 + len(p.m.order), Err: want}) {
		p.t.Errorf("Call(%d, %s): %s, want nothing but %d", session, brief(r), brief(got), want)
	}
}

func (p pair) does(session int, r api.Request) api.Reply {
	p.t.Helper()
	return p.errs(session, r, api.OK)
}

func (p pair) events(session int) []api.Event {
	p.t.Helper()
	got, want := p.x.Events(session), p.m.events(session)
	if !slices.Equal(got, want) {
		p.t.Errorf("Events(%d): %s, want %s", session, brief(got), brief(want))
	}
	return got
}

// tells holds what a session is told, as the test itself says.
func (p pair) tells(session int, want ...api.Event) {
	p.t.Helper()
	if got := p.events(session); !slices.Equal(got, want) {
		p.t.Errorf("Events(%d): %s, want %s", session, brief(got), brief(want))
	}
}

func (p pair) order() []api.Entry {
	p.t.Helper()
	got := p.x.Order()
	if !slices.EqualFunc(got, p.m.order, sameEntry) {
		p.t.Errorf("Order: %s, want %s", brief(got), brief(p.m.order))
	}
	return got
}

// ordered holds the last entry, as the test itself says.
func (p pair) ordered(session, xid int, n api.Txn) {
	p.t.Helper()
	l := p.order()
	want := api.Entry{Zxid: 1<<32 + len(l), Session: session, Xid: xid, Txn: n}
	if len(l) == 0 || !sameEntry(l[len(l)-1], want) {
		p.t.Errorf("the last one of %d entries: %s, want %s", len(l), brief(l[max(0, len(l)-1):]), brief(want))
	}
}

// unchanged holds that what is done has no entry, and that all that can be read stays as it is.
func (p pair) unchanged(do func()) {
	p.t.Helper()
	was, n := p.look(), len(p.order())
	do()
	if is := p.look(); is != was || len(p.order()) != n {
		p.t.Errorf("changed: %d entries more, %.300s, was %.300s", len(p.order())-n, is, was)
	}
}

// look is all that can be read of the nodes by each session; nothing is changed by it.
func (p pair) look() string {
	p.t.Helper()
	s := ""
	for _, seat := range p.m.seats {
		for _, at := range append(p.m.now().Paths(), texts()...) {
			for kind := 9; kind <= 12; kind++ {
				s += fmt.Sprint(p.call(seat.session, api.Request{Kind: kind, Path: at}))
			}
		}
	}
	return s
}

func sameEntry(e, f api.Entry) bool {
	return e.Zxid == f.Zxid && e.Session == f.Session && e.Xid == f.Xid && sameTxn(e.Txn, f.Txn)
}

func sameTxn(x, y api.Txn) bool {
	return x.Kind == y.Kind && x.Path == y.Path && x.Data == y.Data && x.Owner == y.Owner && x.Number == y.Number && x.Err == y.Err &&
		slices.Equal(x.Acl, y.Acl) && slices.EqualFunc(x.Subs, y.Subs, sameTxn)
}

func sameReply(r, q api.Reply) bool {
	return r.Xid == q.Xid && r.Zxid == q.Zxid && r.Err == q.Err && r.Path == q.Path && r.Data == q.Data && r.Stat == q.Stat &&
		slices.Equal(r.Acl, q.Acl) && slices.Equal(r.Kids, q.Kids) && slices.EqualFunc(r.Subs, q.Subs, sameReply)
}

// brief is what is told of a thing in an error, which may be long.
func brief(x any) string {
	s := fmt.Sprintf("%+v", x)
	return s[:min(len(s), 600)]
}

// ann is the ID of ann with the secret x.
const ann = "ann:7c48e6cd280a3c7a"

func rows(perms int, id string) []api.Acl { return []api.Acl{{Perms: perms, ID: id}} }

func all() []api.Acl { return rows(31, "world") }

func create(p, data string) api.Request {
	return api.Request{Kind: api.ReqCreate, Xid: 7, Path: p, Data: data, Acl: all()}
}

func owned(p string) api.Request {
	r := create(p, "")
	r.Flags = api.FlagOwned
	return r
}

func set(p, data string) api.Request {
	return api.Request{Kind: api.ReqSet, Xid: 8, Path: p, Data: data, Version: -1}
}

func remove(p string) api.Request {
	return api.Request{Kind: api.ReqDelete, Xid: 9, Path: p, Version: -1}
}

// watched is a reading that lays a watch.
func watched(kind int, p string) api.Request {
	return api.Request{Kind: kind, Xid: 10, Path: p, Watch: true}
}

func auth(name, secret string) api.Request {
	return api.Request{Kind: api.ReqAuth, Xid: 11, Path: name, Data: secret}
}

func arm(l ...api.Armed) api.Request {
	return api.Request{Kind: api.ReqArm, Xid: 12, Armed: l}
}

func event(kind int, p string, count int) api.Event {
	return api.Event{Kind: kind, Path: p, Zxid: 1<<32 + count}
}

// texts are paths and others, of which there is mostly no node.
func texts() []string { return []string{"/", "/a", "/a/b", "/q", "", "a", "/a/"} }

func numbers() []int {
	return []int{math.MinInt, -1 << 32, -2, -1, 0, 1, 2, 3, 4, 5, 15, 16, 17, 59, 60, 61, 1 << 32, 1<<32 + 1, math.MaxInt}
}
