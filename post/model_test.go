package post_test

import (
	"math"
	"slices"
	"testing"

	"arboretum/api"
	"arboretum/post"
)

// The chapter's words, done step by step: what the package answers is held against it.

// What may have become of a packet.
const (
	underWay = iota
	taken
	lost
)

// sent is a packet that was sent, and what became of it.
type sent struct {
	packet api.Packet
	fate   int
}

// model has every packet that was ever sent, in the order in which they were.
type model struct {
	all []sent
}

// places are those of the packets that are under way.
func (m *model) places() []int {
	l := []int{}
	for at, s := range m.all {
		if s.fate == underWay {
			l = append(l, at)
		}
	}
	return l
}

func (m *model) send(l ...api.Packet) {
	for _, q := range l {
		m.all = append(m.all, sent{packet: q})
		if places := m.places(); len(places) == 401 {
			m.all[places[0]].fate = lost
		}
	}
}

func (m *model) copy(n int) (api.Packet, bool) {
	for i, at := range m.places() {
		if i == n {
			return m.all[at].packet, true
		}
	}
	return api.Packet{}, false
}

func (m *model) take(n int) (api.Packet, bool) {
	for i, at := range m.places() {
		if i == n {
			m.all[at].fate = taken
			return m.all[at].packet, true
		}
	}
	return api.Packet{}, false
}

func (m *model) drop(address int) int {
	count := 0
	for _, at := range m.places() {
		if q := m.all[at].packet; q.To == address || q.From == address {
			m.all[at].fate = lost
			count++
		}
	}
	return count
}

func (m *model) packets() []api.Packet {
	l := []api.Packet{}
	for _, at := range m.places() {
		l = append(l, m.all[at].packet)
	}
	return l
}

// pair is a post and its model, to which the same calls are made.
type pair struct {
	t *testing.T
	p *post.Post
	m *model
}

func newPair(t *testing.T) pair {
	t.Helper()
	return pair{t, made(t), &model{}}
}

// filled has n packets, numbered from 0 on, from the addresses 1 to 3 to the addresses 11 to 14.
func filled(t *testing.T, n int) pair {
	t.Helper()
	x := newPair(t)
	x.send(numbered(0, n)...)
	return x
}

func (x pair) send(l ...api.Packet) {
	x.p.Send(l...)
	x.m.send(l...)
}

func (x pair) take(n int) {
	x.t.Helper()
	got, is := x.p.Take(n)
	want, was := x.m.take(n)
	answer(x.t, "Take", n, got, is, want, was)
}

func (x pair) copy(n int) {
	x.t.Helper()
	got, is := x.p.Copy(n)
	want, was := x.m.copy(n)
	answer(x.t, "Copy", n, got, is, want, was)
}

func (x pair) drop(address int) {
	x.t.Helper()
	if got, want := x.p.Drop(address), x.m.drop(address); got != want {
		x.t.Errorf("Drop(%d): %d, want %d", address, got, want)
	}
}

// same holds everything that is told of the post against the model.
func (x pair) same() {
	x.t.Helper()
	has(x.t, x.p, x.m.packets())
	for _, n := range edges {
		x.copy(n)
	}
}

// edges are numbers at the ends of their kind, and those around what is there and what there may be.
var edges = []int{math.MinInt, math.MinInt + 1, -1 << 32, -401, -400, -1, 0, 1, 2, 399, 400, 401, 1 << 32, 1<<32 + 1, 1 << 62, math.MaxInt - 1, math.MaxInt}

// has asks in each way what is under way.
func has(t *testing.T, p *post.Post, want []api.Packet) {
	t.Helper()
	lists(t, "All", p.All(), want)
	if p.Len() != len(want) {
		t.Errorf("Len: %d, want %d", p.Len(), len(want))
	}
	for n, q := range want {
		got, is := p.Copy(n)
		answer(t, "Copy", n, got, is, q, true)
	}
	got, is := p.Copy(len(want))
	answer(t, "Copy", len(want), got, is, api.Packet{}, false)
}

func made(t *testing.T) *post.Post {
	t.Helper()
	p := post.New()
	if p == nil {
		t.Fatal("New: nil")
	}
	return p
}

func answer(t *testing.T, call string, n int, got api.Packet, is bool, want api.Packet, was bool) {
	t.Helper()
	if got != want || is != was {
		t.Errorf("%s(%d): %s, %t, want %s, %t", call, n, short(got), is, short(want), was)
	}
}

func lists(t *testing.T, call string, got, want []api.Packet) {
	t.Helper()
	if !slices.Equal(got, want) {
		t.Errorf("%s: %d packets, want %d; they differ first at %d", call, len(got), len(want), differ(got, want))
	}
}

func differ(a, b []api.Packet) int {
	n := 0
	for n < min(len(a), len(b)) && a[n] == b[n] {
		n++
	}
	return n
}

// numbered are n packets, each with a number of its own, from a first one on.
func numbered(first, n int) []api.Packet {
	l := []api.Packet{}
	for seq := first; seq < first+n; seq++ {
		l = append(l, api.Packet{From: 1 + seq%3, To: 11 + seq%4, Kind: api.PacketLink, Seq: seq})
	}
	return l
}
