package wal_test

import (
	"encoding/binary"
	"slices"
	"strings"
	"testing"

	"arboretum/api"
	"arboretum/disk"
	"arboretum/wal"
)

// The chapter's words, done step by step on a disk of their own: what the package answers, and what it leaves on its disk, is held against it.

const greatest = 1<<32 - 1

func zeros(n int) string { return string(make([]byte, n)) }

// half is k: how many sectors each area has.
func half(sectors int) int { return (sectors - 2) / 2 }

func sumOf(s string) uint32 {
	h := uint32(2166136261)
	for i := range len(s) {
		h = (h ^ uint32(s[i])) * 16777619
	}
	return h
}

func recordOf(s string) string {
	b := append(binary.BigEndian.AppendUint16(nil, uint16(len(s))), s...)
	return string(binary.BigEndian.AppendUint32(b, sumOf(string(b))))
}

func recordsOf(l []string) string {
	var b strings.Builder
	for _, r := range l {
		b.WriteString(recordOf(r))
	}
	return b.String()
}

// marked is what a mark sector tells.
type marked struct {
	count          uint32
	area           byte
	length, number uint32
	a, b           uint64
}

func (m marked) sector() string {
	b := binary.BigEndian.AppendUint32([]byte("WM"), m.count)
	b = append(b, m.area)
	b = binary.BigEndian.AppendUint32(b, m.length)
	b = binary.BigEndian.AppendUint32(b, m.number)
	b = binary.BigEndian.AppendUint64(b, m.a)
	b = binary.BigEndian.AppendUint64(b, m.b)
	b = append(b, make([]byte, 29)...)
	return string(binary.BigEndian.AppendUint32(b, m.count))
}

// markedBy is what the mark sector n of a disk of so many sectors tells; false, if it is not right.
func markedBy(s string, n, sectors int) (marked, bool) {
	b := []byte(s)
	big := binary.BigEndian
	m := marked{big.Uint32(b[2:]), b[6], big.Uint32(b[7:]), big.Uint32(b[11:]), big.Uint64(b[15:]), big.Uint64(b[23:])}
	switch {
	case s[:2] != "WM", s[31:60] != zeros(29), big.Uint32(b[60:]) != m.count:
		return marked{}, false
	case m.count < 1, int(m.count)%2 != n, m.area > 1, int(m.length) > 64*half(sectors):
		return marked{}, false
	case m.a > 1<<63-1, m.b > 1<<63-1:
		return marked{}, false
	}
	return m, true
}

// act is a Write of a sector, or a Sync.
type act struct {
	sync   bool
	sector int
	s      string
}

// model is a log by the chapter's words.
type model struct {
	d       *disk.Disk
	records []string
	synced  int
	area    int
	count   int
	a, b    int
	doubt   bool
}

// do does them, up to the one of which the disk is dead.
func (m *model) do(acts ...act) api.Errno {
	for _, x := range acts {
		e := api.OK
		if x.sync {
			e = m.d.Sync()
		} else {
			e = m.d.Write(x.sector, x.s)
		}
		if e != api.OK {
			m.doubt = true
			return e
		}
	}
	return api.OK
}

// laying are the writes of the sectors of an area that have a byte of what stands behind the first bytes of s.
func laying(d *disk.Disk, area int, s string, first int) []act {
	acts := []act{}
	full := s + zeros(64)
	for n := range half(d.Size()) {
		if 64*n+64 > first && 64*n < len(s) {
			acts = append(acts, act{sector: 2 + area*half(d.Size()) + n, s: full[64*n : 64*n+64]})
		}
	}
	return acts
}

// next is the write of the next mark.
func (m *model) next(area int, records []string, a, b int) act {
	x := marked{uint32(m.count + 1), byte(area), uint32(len(recordsOf(records))), uint32(len(records)), uint64(a), uint64(b)}
	return act{sector: (m.count + 1) % 2, s: x.sector()}
}

func formatModel(d *disk.Disk) (*model, api.Errno) {
	m := &model{d: d}
	if e := m.do(act{sector: 0, s: zeros(64)}, m.next(0, nil, 0, 0), act{sync: true}); e != api.OK {
		return nil, e
	}
	m.count = 1
	return m, api.OK
}

func openModel(d *disk.Disk) (*model, api.Errno) {
	if d.Dead() {
		return nil, api.ErrDead
	}
	found := []marked{}
	for n := range 2 {
		s, _ := d.Read(n)
		if x, right := markedBy(s, n, d.Size()); right {
			found = append(found, x)
		}
	}
	if len(found) == 0 {
		return nil, api.ErrWalForm
	}
	x := slices.MaxFunc(found, func(x, y marked) int { return int(x.count) - int(y.count) })
	var all strings.Builder
	for n := range half(d.Size()) {
		s, _ := d.Read(2 + int(x.area)*half(d.Size()) + n)
		all.WriteString(s)
	}
	records, right := recordsIn(all.String()[:x.length], int(x.number))
	if !right {
		return nil, api.ErrWalForm
	}
	return &model{d, records, len(records), int(x.area), int(x.count), int(x.a), int(x.b), false}, api.OK
}

// recordsIn are so many records, if s is just these.
func recordsIn(s string, number int) ([]string, bool) {
	records := []string{}
	for range number {
		if len(s) < 2 {
			return nil, false
		}
		n := int(s[0])*256 + int(s[1])
		if n > 4000 || len(s) < n+6 || s[:n+6] != recordOf(s[2:n+2]) {
			return nil, false
		}
		records = append(records, s[2:n+2])
		s = s[n+6:]
	}
	return records, s == ""
}

func (m *model) space() int { return 64 * half(m.d.Size()) }

func (m *model) append(s string) api.Errno {
	there := recordsOf(m.records)
	switch {
	case m.doubt:
		return api.ErrWalDoubt
	case len(s) > 4000:
		return api.ErrWalLong
	case len(there)+len(s)+6 > m.space():
		return api.ErrWalFull
	}
	e := m.do(laying(m.d, m.area, there+recordOf(s), len(there))...)
	if e == api.OK {
		m.records = append(m.records, s)
	}
	return e
}

func (m *model) sync() api.Errno {
	switch {
	case m.doubt:
		return api.ErrWalDoubt
	case m.synced == len(m.records):
		return api.OK
	case m.count == greatest:
		return api.ErrWalFull
	}
	e := m.do(act{sync: true}, m.next(m.area, m.records, m.a, m.b), act{sync: true})
	if e == api.OK {
		m.count, m.synced = m.count+1, len(m.records)
	}
	return e
}

func (m *model) cut(n int) api.Errno {
	switch {
	case m.doubt:
		return api.ErrWalDoubt
	case n < 0, n > len(m.records):
		return api.ErrWalNone
	case m.count == greatest:
		return api.ErrWalFull
	}
	e := m.do(act{sync: true}, m.next(m.area, m.records[:n], m.a, m.b), act{sync: true})
	if e == api.OK {
		m.count, m.records, m.synced = m.count+1, m.records[:n:n], n
	}
	return e
}

func (m *model) renew(records []string) api.Errno {
	switch {
	case m.doubt:
		return api.ErrWalDoubt
	case slices.ContainsFunc(records, func(s string) bool { return len(s) > 4000 }):
		return api.ErrWalLong
	case len(recordsOf(records)) > m.space(), m.count == greatest:
		return api.ErrWalFull
	}
	acts := laying(m.d, 1-m.area, recordsOf(records), 0)
	acts = append(acts, act{sync: true}, m.next(1-m.area, records, m.a, m.b), act{sync: true})
	e := m.do(acts...)
	if e == api.OK {
		m.count, m.area = m.count+1, 1-m.area
		m.records, m.synced = slices.Clone(records), len(records)
	}
	return e
}

func (m *model) mark(a, b int) api.Errno {
	switch {
	case m.doubt:
		return api.ErrWalDoubt
	case a < 0, b < 0:
		return api.ErrArg
	case m.count == greatest:
		return api.ErrWalFull
	}
	e := m.do(m.next(m.area, m.records[:m.synced], a, b), act{sync: true})
	if e == api.OK {
		m.count, m.a, m.b = m.count+1, a, b
	}
	return e
}

func (m *model) room() int {
	free := m.space() - len(recordsOf(m.records)) - 6
	switch {
	case free < 0:
		return -1
	case free > 4000:
		return 4000
	}
	return free
}

// pair is a log and its model, each on a disk of its own, to which the same calls are made.
type pair struct {
	t *testing.T
	d *disk.Disk
	l *wal.Log
	m *model
}

// newPair is of new disks, with an empty log.
func newPair(t *testing.T, sectors int) *pair {
	t.Helper()
	p := &pair{t: t, d: made(t, sectors), m: &model{d: made(t, sectors)}}
	p.format()
	return p
}

// crafted is of disks with these sectors; the others are zeros.
func crafted(t *testing.T, size int, sectors map[int]string) *pair {
	t.Helper()
	p := &pair{t: t, d: made(t, size), m: &model{d: made(t, size)}}
	for n, s := range sectors {
		told(t, "Write", p.d.Write(n, s), api.OK)
		told(t, "Write", p.m.d.Write(n, s), api.OK)
	}
	told(t, "disk's Sync", p.d.Sync(), p.m.d.Sync())
	return p
}

func (p *pair) format() {
	p.t.Helper()
	l, e := wal.Format(p.d)
	m, want := formatModel(p.m.d)
	p.begun("Format", l, e, m, want)
}

func (p *pair) open() {
	p.t.Helper()
	l, e := wal.Open(p.d)
	m, want := openModel(p.m.d)
	p.begun("Open", l, e, m, want)
}

func (p *pair) begun(call string, l *wal.Log, e api.Errno, m *model, want api.Errno) {
	p.t.Helper()
	if e != want || (l == nil) != (want != api.OK) {
		p.t.Fatalf("%s: %v, %d, want %d", call, l, e, want)
	}
	p.sameDisk()
	if want == api.OK {
		p.l, p.m = l, m
		p.same()
	}
}

func (p *pair) append(s string) {
	p.t.Helper()
	told(p.t, "Append", p.l.Append(s), p.m.append(s))
	p.same()
}

func (p *pair) sync() {
	p.t.Helper()
	told(p.t, "Sync", p.l.Sync(), p.m.sync())
	p.same()
}

func (p *pair) cut(n int) {
	p.t.Helper()
	told(p.t, "Cut", p.l.Cut(n), p.m.cut(n))
	p.same()
}

func (p *pair) renew(records ...string) {
	p.t.Helper()
	told(p.t, "Renew", p.l.Renew(records), p.m.renew(records))
	p.same()
}

func (p *pair) mark(a, b int) {
	p.t.Helper()
	told(p.t, "Mark", p.l.Mark(a, b), p.m.mark(a, b))
	p.same()
}

func (p *pair) arm(n int) {
	p.t.Helper()
	told(p.t, "Arm", p.d.Arm(n), p.m.d.Arm(n))
}

func (p *pair) crash(how ...int) {
	p.d.Crash(how)
	p.m.d.Crash(how)
}

// same holds everything that is told of the log and of its disk against the model.
func (p *pair) same() {
	p.t.Helper()
	p.sameDisk()
	records, e := p.l.Records()
	if p.m.doubt {
		if len(records) > 0 || e != api.ErrWalDoubt {
			p.t.Errorf("Records of a log in doubt: %q, %d", records, e)
		}
	} else if !slices.Equal(records, p.m.records) || e != api.OK {
		p.t.Errorf("Records: %q, %d, want %q", records, e, p.m.records)
	}
	if a, b := p.l.Marks(); a != p.m.a || b != p.m.b {
		p.t.Errorf("Marks: %d, %d, want %d, %d", a, b, p.m.a, p.m.b)
	}
	if p.l.Len() != len(p.m.records) || p.l.Synced() != p.m.synced || p.l.Room() != p.m.room() {
		p.t.Errorf("Len %d, Synced %d, Room %d, want %d, %d, %d",
			p.l.Len(), p.l.Synced(), p.l.Room(), len(p.m.records), p.m.synced, p.m.room())
	}
}

func (p *pair) sameDisk() {
	p.t.Helper()
	if p.d.Dead() != p.m.d.Dead() || p.d.Acts() != p.m.d.Acts() {
		p.t.Fatalf("its disk: dead %t, %d acts, want %t, %d", p.d.Dead(), p.d.Acts(), p.m.d.Dead(), p.m.d.Acts())
	}
	if got, want := p.d.Pending(), p.m.d.Pending(); !slices.Equal(got, want) {
		p.t.Fatalf("its disk: pending %v, want %v", got, want)
	}
	for n := range p.d.Size() {
		got, _ := p.d.Read(n)
		if want, _ := p.m.d.Read(n); got != want {
			p.t.Fatalf("its disk: the sector %d is %q, want %q", n, got, want)
		}
	}
}

func made(t *testing.T, sectors int) *disk.Disk {
	t.Helper()
	d, e := disk.New(sectors)
	if d == nil || e != api.OK {
		t.Fatalf("New(%d): %v, %d", sectors, d, e)
	}
	return d
}

func told(t *testing.T, call string, got, want api.Errno) {
	t.Helper()
	if got != want {
		t.Errorf("%s: %d, want %d", call, got, want)
	}
}

func xs(n int) string { return strings.Repeat("x", n) }
