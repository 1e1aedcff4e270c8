package session_test

import (
	"math"
	"slices"
	"testing"

	"arboretum/api"
	"arboretum/session"
)

// The chapter's words, done step by step: what the package answers is held against it.

// lastTime is 2^40.
const lastTime = 1099511627776

// kept is what was done to one session, as far as it tells anything: its timeout, and when it was opened and touched.
type kept struct {
	timeout int
	heard   []int
}

// model has the sessions in the order in which they came.
type model struct {
	ids      []int
	sessions []kept // each at its id's place
}

func isTime(n int) bool { return n >= 0 && n <= lastTime }

// bucketOf goes up from the sum to the first multiple of 4.
func bucketOf(now, timeout int) int {
	n := now + timeout
	for n%4 != 0 {
		n++
	}
	return n
}

func (k kept) deadline() int {
	most := 0
	for _, now := range k.heard {
		most = max(most, bucketOf(now, k.timeout))
	}
	return most
}

func (m *model) open(id, timeout, now int) api.Errno {
	at := slices.Index(m.ids, id)
	switch {
	case id < 1, timeout < 4, timeout > 60, !isTime(now):
		return 1
	case len(m.ids) == 16 && at < 0:
		return 91
	case at < 0:
		at = len(m.ids)
		m.ids, m.sessions = append(m.ids, id), append(m.sessions, kept{})
	}
	m.sessions[at] = kept{timeout: timeout, heard: []int{now}}
	return 0
}

func (m *model) touch(id, now int) api.Errno {
	at := slices.Index(m.ids, id)
	switch {
	case at < 0:
		return 90
	case !isTime(now):
		return 1
	}
	m.sessions[at].heard = append(m.sessions[at].heard, now)
	return 0
}

func (m *model) close(id int) api.Errno {
	at := slices.Index(m.ids, id)
	if at < 0 {
		return 90
	}
	m.ids, m.sessions = slices.Delete(m.ids, at, at+1), slices.Delete(m.sessions, at, at+1)
	return 0
}

func (m *model) deadline(id int) (int, api.Errno) {
	at := slices.Index(m.ids, id)
	if at < 0 {
		return 0, 90
	}
	return m.sessions[at].deadline(), 0
}

func (m *model) expired(now int) []int {
	l := []int{}
	for at, k := range m.sessions {
		if k.deadline() <= now {
			l = append(l, m.ids[at])
		}
	}
	slices.Sort(l)
	return l
}

func (m *model) all() []int { return slices.Sorted(slices.Values(m.ids)) }

// pair is a tracker and its model, to which the same calls are made.
type pair struct {
	t *testing.T
	s *session.Tracker
	m *model
}

func newPair(t *testing.T) pair {
	t.Helper()
	return pair{t, made(t), &model{}}
}

func (p pair) open(id, timeout, now int) {
	p.t.Helper()
	told(p.t, "Open", p.s.Open(id, timeout, now), p.m.open(id, timeout, now), id, timeout, now)
}

func (p pair) touch(id, now int) {
	p.t.Helper()
	told(p.t, "Touch", p.s.Touch(id, now), p.m.touch(id, now), id, now)
}

func (p pair) close(id int) {
	p.t.Helper()
	told(p.t, "Close", p.s.Close(id), p.m.close(id), id)
}

func (p pair) deadline(id int) {
	p.t.Helper()
	got, e := p.s.Deadline(id)
	want, e2 := p.m.deadline(id)
	if got != want || e != e2 {
		p.t.Errorf("Deadline(%d): %d, %d, want %d, %d", id, got, e, want, e2)
	}
}

func (p pair) expired(now int) {
	p.t.Helper()
	lists(p.t, "Expired", p.s.Expired(now), p.m.expired(now), now)
}

// same holds everything that is told of the tracker against the model.
func (p pair) same() {
	p.t.Helper()
	lists(p.t, "All", p.s.All(), p.m.all())
	for _, now := range edges {
		p.expired(now)
	}
	for _, id := range p.m.all() {
		p.deadline(id)
		p.deadline(id + 1)
		p.deadline(-id)
		at, _ := p.m.deadline(id)
		p.expired(at)
		p.expired(at - 1)
	}
	p.deadline(0)
}

// edges are numbers at the ends of their kind, and those around the first and the last time.
var edges = []int{math.MinInt, math.MinInt + 1, -1 << 40, -4, -1, 0, 1, 4, 60, lastTime - 1, lastTime, lastTime + 1, lastTime + 60, lastTime + 64, math.MaxInt - 60, math.MaxInt - 3, math.MaxInt}

func made(t *testing.T) *session.Tracker {
	t.Helper()
	s := session.New()
	if s == nil {
		t.Fatal("New: nil")
	}
	return s
}

func told(t *testing.T, call string, got, want api.Errno, args ...int) {
	t.Helper()
	if got != want {
		t.Errorf("%s%v: %d, want %d", call, args, got, want)
	}
}

func lists(t *testing.T, call string, got, want []int, args ...int) {
	t.Helper()
	if !slices.Equal(got, want) {
		t.Errorf("%s%v: %v, want %v", call, args, got, want)
	}
}

func endsAt(t *testing.T, s *session.Tracker, id, want int) {
	t.Helper()
	if got, e := s.Deadline(id); got != want || e != api.OK {
		t.Errorf("Deadline(%d): %d, %d, want %d", id, got, e, want)
	}
}

func isNone(t *testing.T, s *session.Tracker, id int) {
	t.Helper()
	if got, e := s.Deadline(id); got != 0 || e != api.ErrSessionNone {
		t.Errorf("Deadline(%d): %d, %d, want none", id, got, e)
	}
}
