package watch_test

import (
	"fmt"
	"math"
	"slices"
	"strings"
	"testing"

	"arboretum/api"
	"arboretum/path"
	"arboretum/tree"
	"arboretum/watch"
)

// The chapter's words, done step by step: what the package answers is held against it.

// laid is a watch.
type laid struct {
	session, kind int
	path          string
}

// model has the watches in the order in which they were laid.
type model struct{ l []laid }

// meeting: by an event's kind, the kinds of the watches that it meets.
var meeting = [][]int{1: {2}, 2: {1, 2, 3}, 3: {1, 2}, 4: {3}}

func meets(e api.Event, w laid) bool {
	return e.Kind >= 1 && e.Kind <= 4 && slices.Contains(meeting[e.Kind], w.kind) && e.Path == w.path
}

func wrongWatch(kind int, p string) bool {
	return kind != 1 && kind != 2 && kind != 3 || path.Check(p) != api.OK
}

func (m *model) add(session, kind int, p string) api.Errno {
	w := laid{session, kind, p}
	switch {
	case session < 1, wrongWatch(kind, p):
		return 1
	case slices.Contains(m.l, w):
		return 0
	case m.count(session) == 64:
		return 91
	}
	m.l = append(m.l, w)
	return 0
}

func (m *model) drop(session int) {
	m.l = slices.DeleteFunc(m.l, func(w laid) bool { return w.session == session })
}

func (m *model) count(session int) int {
	n := 0
	for _, w := range m.l {
		if w.session == session {
			n++
		}
	}
	return n
}

// sessions are those that have a watch, rising.
func (m *model) sessions() []int {
	l := []int{}
	for _, w := range m.l {
		l = append(l, w.session)
	}
	slices.Sort(l)
	return slices.Compact(l)
}

func (m *model) fire(events []api.Event) []api.Told {
	told := []api.Told{}
	for _, e := range events {
		for _, session := range m.sessions() {
			if slices.ContainsFunc(m.l, func(w laid) bool { return w.session == session && meets(e, w) }) {
				told = append(told, api.Told{Session: session, Event: e})
			}
		}
		m.l = slices.DeleteFunc(m.l, func(w laid) bool { return meets(e, w) })
	}
	return told
}

func (m *model) arm(session int, now *tree.Tree, l []api.Armed) []api.Event {
	events := []api.Event{}
	if session < 1 || now == nil {
		return events
	}
	for _, a := range l {
		if wrongWatch(a.Kind, a.Path) {
			continue
		}
		if e := happened(now, a); e.Kind == 0 {
			m.add(session, a.Kind, a.Path)
		} else if !slices.Contains(events, e) {
			events = append(events, e)
		}
	}
	return events
}

// happened is what Arm tells of one watch; of the kind 0: nothing.
func happened(now *tree.Tree, a api.Armed) api.Event {
	s, is := now.Stat(a.Path)
	if a.Kind == 2 {
		if is {
			return event(1, a.Path, s.Czxid)
		}
		return api.Event{}
	}
	if !is || s.Czxid != a.Czxid {
		return event(2, a.Path, now.Zxid())
	}
	if a.Kind == 3 && s.Pzxid != a.Pzxid {
		return event(4, a.Path, s.Pzxid)
	}
	if a.Kind == 1 && s.Mzxid != a.Mzxid {
		return event(3, a.Path, s.Mzxid)
	}
	return api.Event{}
}

// pair is a table and its model, to which the same calls are made.
type pair struct {
	t *testing.T
	x *watch.Table
	m *model
}

func newPair(t *testing.T) pair {
	t.Helper()
	return pair{t, made(t), &model{}}
}

func (p pair) add(session, kind int, at string) {
	p.t.Helper()
	told(p.t, p.x.Add(session, kind, at), p.m.add(session, kind, at), session, kind, at)
	p.count(session)
}

func (p pair) fire(events ...api.Event) []api.Told {
	p.t.Helper()
	got, want := p.x.Fire(events...), p.m.fire(events)
	if !slices.Equal(got, want) {
		p.t.Errorf("Fire(%s): %s, want %s", brief(events), brief(got), brief(want))
	}
	return got
}

func (p pair) arm(session int, now *tree.Tree, l ...api.Armed) []api.Event {
	p.t.Helper()
	got, want := p.x.Arm(session, now, l...), p.m.arm(session, now, l)
	if !slices.Equal(got, want) {
		p.t.Errorf("Arm(%d, %s): %s, want %s", session, brief(l), brief(got), brief(want))
	}
	p.count(session)
	return got
}

func (p pair) drop(session int) {
	p.t.Helper()
	p.x.Drop(session)
	p.m.drop(session)
	p.count(session)
}

func (p pair) count(session int) {
	p.t.Helper()
	if got, want := p.x.Count(session), p.m.count(session); got != want {
		p.t.Errorf("Count(%d): %d, want %d", session, got, want)
	}
}

// counts holds how many watches there are against the model, also of those who have none.
func (p pair) counts() {
	p.t.Helper()
	for _, session := range append(p.m.sessions(), numbers()...) {
		p.count(session)
	}
}

// drain holds each watch against the model: events of each path take one kind away behind the other, until there are none.
func (p pair) drain() {
	p.t.Helper()
	p.counts()
	paths := texts()
	for _, w := range p.m.l {
		paths = append(paths, w.path)
	}
	for i, at := range paths {
		p.fire(event(1, at, i))
		p.fire(event(4, at, i))
		p.fire(event(2, at, i))
	}
	for _, session := range p.m.sessions() {
		p.t.Errorf("the model has watches of %d still", session)
	}
	p.counts()
}

func made(t *testing.T) *watch.Table {
	t.Helper()
	x := watch.New()
	if x == nil {
		t.Fatal("New: nil")
	}
	return x
}

func told(t *testing.T, got, want api.Errno, session, kind int, at string) {
	t.Helper()
	if got != want {
		t.Errorf("Add(%d, %d, %.80q): %d, want %d", session, kind, at, got, want)
	}
}

// brief is what is told of a thing in an error, which may be long.
func brief(x any) string {
	s := fmt.Sprintf("%+v", x)
	return s[:min(len(s), 400)]
}

func event(kind int, p string, zxid int) api.Event {
	return api.Event{Kind: kind, Path: p, Zxid: zxid}
}

func armed(kind int, p string, c, m, q int) api.Armed {
	return api.Armed{Kind: kind, Path: p, Czxid: c, Mzxid: m, Pzxid: q}
}

// right are paths: of up to six names, up to 60 bytes, and such as begin as others do.
func right() []string {
	return []string{"/", "/a", "/b", "/ab", "/A", "/_", "/a/b", "/a/c", "/a-x", "/b/a", "/a/b/c/d/e/f", "/" + strings.Repeat("x", 59)}
}

// wrong are texts that are no paths, most of them such as differ from one in little.
func wrong() []string {
	return []string{"", "a", "a/b", "//", "/a/", "//a", "/a//b", "/a b", "/.", "/a/..", "/a\x00", "/ä", "/a\xff", "/a/b/c/d/e/f/g", "/" + strings.Repeat("x", 60), strings.Repeat("/a", 1<<16)}
}

func texts() []string { return append(right(), wrong()...) }

func numbers() []int {
	return []int{math.MinInt, math.MinInt + 1, -1 << 32, -3, -2, -1, 0, 1, 2, 3, 4, 5, 64, 256 + 1, 1 << 32, 1<<32 + 1, 1<<32 + 3, math.MaxInt - 1, math.MaxInt}
}
