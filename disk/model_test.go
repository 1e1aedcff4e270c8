package disk_test

import (
	"slices"
	"strings"
	"testing"

	"arboretum/api"
	"arboretum/disk"
)

// The chapter's words, done step by step: what the package answers is held against it.

const zeros = "\x00\x00\x00\x00\x00\x00\x00\x00\x00\x00\x00\x00\x00\x00\x00\x00" +
	"\x00\x00\x00\x00\x00\x00\x00\x00\x00\x00\x00\x00\x00\x00\x00\x00" +
	"\x00\x00\x00\x00\x00\x00\x00\x00\x00\x00\x00\x00\x00\x00\x00\x00" +
	"\x00\x00\x00\x00\x00\x00\x00\x00\x00\x00\x00\x00\x00\x00\x00\x00"

// model keeps what the sectors were when nothing was pending, and each write since then.
type model struct {
	atRest []string
	writes []write
	acts   int
	deadly int // the number of the act at which it dies; 0: none
	dead   bool
}

type write struct {
	sector int
	bytes  string
}

func newModel(sectors int) *model {
	return &model{atRest: slices.Repeat([]string{zeros}, sectors)}
}

func (m *model) last(n int) string {
	s := m.atRest[n]
	for _, w := range m.writes {
		if w.sector == n {
			s = w.bytes
		}
	}
	return s
}

func (m *model) pending() []int {
	l := []int{}
	for n := range m.atRest {
		if slices.ContainsFunc(m.writes, func(w write) bool { return w.sector == n }) {
			l = append(l, n)
		}
	}
	return l
}

func (m *model) read(n int) (string, api.Errno) {
	switch {
	case m.dead:
		return "", api.ErrDead
	case n < 0, n >= len(m.atRest):
		return "", api.ErrDiskSector
	}
	return m.last(n), api.OK
}

// act tells whether the disk dies at this one.
func (m *model) act() bool {
	m.acts++
	m.dead = m.acts == m.deadly
	return m.dead
}

func (m *model) write(n int, s string) api.Errno {
	switch {
	case m.dead:
		return api.ErrDead
	case n < 0, n >= len(m.atRest), len(s) != 64:
		return api.ErrDiskSector
	}
	m.writes = append(m.writes, write{n, s})
	if m.act() {
		return api.ErrDead
	}
	return api.OK
}

func (m *model) rest(sectors []string) {
	m.atRest, m.writes = sectors, nil
}

func (m *model) sync() api.Errno {
	if m.dead || m.act() {
		return api.ErrDead
	}
	now := []string{}
	for n := range m.atRest {
		now = append(now, m.last(n))
	}
	m.rest(now)
	return api.OK
}

func (m *model) arm(n int) api.Errno {
	switch {
	case m.dead:
		return api.ErrDead
	case n < 0:
		return api.ErrArg
	}
	m.deadly = 0
	if n > 0 {
		m.deadly = m.acts + n
	}
	return api.OK
}

func (m *model) crash(how []int) {
	behind := slices.Clone(m.atRest)
	for k, n := range m.pending() {
		fate := 0
		if k < len(how) {
			fate = how[k]
		}
		behind[n] = met(fate, m.atRest[n], m.last(n))
	}
	m.rest(behind)
	m.deadly, m.dead = 0, false
}

func met(fate int, old, now string) string {
	if fate < 0 {
		fate = -(fate + 1)
	}
	b := fate / 3 % 65
	return []string{old, now, now[:b] + old[b:]}[fate%3]
}

// pair is a disk and its model, to which the same calls are made.
type pair struct {
	t *testing.T
	d *disk.Disk
	m *model
}

func newPair(t *testing.T, sectors int) pair {
	t.Helper()
	return pair{t, made(t, sectors), newModel(sectors)}
}

func (p pair) write(n int, s string) {
	p.t.Helper()
	told(p.t, "Write", p.d.Write(n, s), p.m.write(n, s))
}

func (p pair) sync() {
	p.t.Helper()
	told(p.t, "Sync", p.d.Sync(), p.m.sync())
}

func (p pair) arm(n int) {
	p.t.Helper()
	told(p.t, "Arm", p.d.Arm(n), p.m.arm(n))
}

func (p pair) crash(how ...int) {
	p.d.Crash(how)
	p.m.crash(how)
}

func (p pair) read(n int) {
	p.t.Helper()
	got, e := p.d.Read(n)
	want, e2 := p.m.read(n)
	if got != want || e != e2 {
		p.t.Errorf("Read(%d): %q, %d, want %q, %d", n, got, e, want, e2)
	}
}

// same holds everything that is told of the disk against the model.
func (p pair) same() {
	p.t.Helper()
	for n := -1; n <= len(p.m.atRest); n++ {
		p.read(n)
	}
	if got, want := p.d.Pending(), p.m.pending(); !slices.Equal(got, want) {
		p.t.Errorf("Pending: %v, want %v", got, want)
	}
	if got, want := p.d.Size(), len(p.m.atRest); got != want {
		p.t.Errorf("Size: %d, want %d", got, want)
	}
	if p.d.Dead() != p.m.dead {
		p.t.Errorf("Dead: %t", p.d.Dead())
	}
	if p.d.Acts() != p.m.acts {
		p.t.Errorf("Acts: %d, want %d", p.d.Acts(), p.m.acts)
	}
}

func made(t *testing.T, sectors int) *disk.Disk {
	t.Helper()
	d, e := disk.New(sectors)
	if d == nil || e != api.OK {
		t.Fatalf("New(%d): %v, %d", sectors, d, e)
	}
	return d
}

func told(t *testing.T, call string, got, want api.Errno) {
	t.Helper()
	if got != want {
		t.Errorf("%s: %d, want %d", call, got, want)
	}
}

func full(c string) string { return strings.Repeat(c, 64) }
