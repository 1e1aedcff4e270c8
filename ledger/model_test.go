package ledger_test

import (
	"encoding/binary"
	"reflect"
	"slices"
	"strings"
	"testing"

	"arboretum/api"
	"arboretum/disk"
	"arboretum/ledger"
	"arboretum/wal"
	"arboretum/wire"
)

// The chapter's words, done step by step in a log on a disk of their own: what the package answers, and what it leaves on its disk, is held against it.

// model is a ledger by the chapter's words.
type model struct {
	d                 *disk.Disk
	log               *wal.Log
	base              int
	snapshot          string
	entries           []api.Entry
	accepted, current int
	doubt             bool
}

// headOf is the first record.
func headOf(base, bytes int) string {
	return string(binary.AppendUvarint(binary.AppendVarint(nil, int64(base)), uint64(bytes)))
}

// piecesOf are the records of a snapshot.
func piecesOf(s string) []string {
	l := []string{}
	for b := range slices.Chunk([]byte(s), 4000) {
		l = append(l, string(b))
	}
	return l
}

func frontOf(base int, snapshot string) []string {
	return append([]string{headOf(base, len(snapshot))}, piecesOf(snapshot)...)
}

func laidOf(entries []api.Entry) []string {
	l := []string{}
	for _, e := range entries {
		l = append(l, wire.PutEntry(e))
	}
	return l
}

// own is an entry that shares nothing with e, its lists without elements nil.
func own(e api.Entry) api.Entry {
	e.Txn = ownTxn(e.Txn)
	return e
}

func ownTxn(t api.Txn) api.Txn {
	t.Acl = append([]api.Acl(nil), t.Acl...)
	subs := t.Subs
	t.Subs = nil
	for _, sub := range subs {
		t.Subs = append(t.Subs, ownTxn(sub))
	}
	return t
}

func ownAll(l []api.Entry) []api.Entry {
	m := []api.Entry{}
	for _, e := range l {
		m = append(m, own(e))
	}
	return m
}

func fits(e api.Entry) bool {
	t := e.Txn
	return fitsPart(t) && len(t.Subs) <= 256 && !slices.ContainsFunc(t.Subs, func(sub api.Txn) bool {
		return !fitsPart(sub) || len(sub.Subs) > 0
	})
}

func fitsPart(t api.Txn) bool {
	long := func(row api.Acl) bool { return len(row.ID) > 4096 }
	return len(t.Path) <= 4096 && len(t.Data) <= 4096 && len(t.Acl) <= 256 && !slices.ContainsFunc(t.Acl, long)
}

func allFit(l []api.Entry) bool {
	return !slices.ContainsFunc(l, func(e api.Entry) bool { return !fits(e) })
}

func risesFrom(base int, l []api.Entry) bool {
	for i, e := range l {
		if i == 0 && e.Zxid <= base || i > 0 && e.Zxid <= l[i-1].Zxid {
			return false
		}
	}
	return true
}

func formatModel(d *disk.Disk) (*model, api.Errno) {
	log, e := wal.Format(d)
	if e == api.OK {
		e = log.Append("\x00\x00")
	}
	if e == api.OK {
		e = log.Sync()
	}
	if e != api.OK {
		return nil, e
	}
	return &model{d: d, log: log}, api.OK
}

func openModel(d *disk.Disk) (*model, api.Errno) {
	if d.Dead() {
		return nil, api.ErrDead
	}
	log, e := wal.Open(d)
	if e != api.OK {
		return nil, api.ErrLedgerForm
	}
	m := &model{d: d, log: log}
	if !m.find() {
		return nil, api.ErrLedgerForm
	}
	return m, api.OK
}

func (m *model) find() bool {
	m.accepted, m.current = m.log.Marks()
	left, _ := m.log.Records()
	if len(left) == 0 {
		return false
	}
	base, n := binary.Varint([]byte(left[0]))
	if n <= 0 {
		return false
	}
	bytes, more := binary.Uvarint([]byte(left[0][n:]))
	if more <= 0 || bytes > 65536 || left[0] != headOf(int(base), int(bytes)) {
		return false
	}
	left = left[1:]
	for missing := int(bytes); missing > 0; missing = int(bytes) - len(m.snapshot) {
		if len(left) == 0 || len(left[0]) != min(missing, 4000) {
			return false
		}
		m.snapshot += left[0]
		left = left[1:]
	}
	for _, s := range left {
		e, wrong := wire.GetEntry(s)
		if wrong != api.OK {
			return false
		}
		m.entries = append(m.entries, e)
	}
	m.base = int(base)
	return base >= 0 && len(m.entries) <= 200 && risesFrom(m.base, m.entries) && m.accepted <= 1<<30 && m.current <= m.accepted
}

// behind is what the ledger answers where the log has answered that.
func (m *model) behind(e api.Errno) api.Errno {
	if e == api.ErrDead {
		m.doubt = true
	}
	if e == api.ErrWalFull || e == api.ErrWalLong {
		return api.ErrLedgerFull
	}
	return e
}

func (m *model) accept(epoch int) api.Errno {
	switch {
	case m.doubt:
		return api.ErrDead
	case epoch < m.accepted, epoch > 1<<30:
		return api.ErrLedgerEpoch
	case epoch == m.accepted:
		return api.OK
	}
	e := m.behind(m.log.Mark(epoch, m.current))
	if e == api.OK {
		m.accepted = epoch
	}
	return e
}

func (m *model) adopt(epoch int) api.Errno {
	switch {
	case m.doubt:
		return api.ErrDead
	case epoch < m.current, epoch > m.accepted:
		return api.ErrLedgerEpoch
	}
	e := m.behind(m.log.Sync())
	if e == api.OK {
		e = m.behind(m.log.Mark(m.accepted, epoch))
	}
	if e == api.OK {
		m.current = epoch
	}
	return e
}

func (m *model) append(x api.Entry) api.Errno {
	switch {
	case m.doubt:
		return api.ErrDead
	case !fits(x):
		return api.ErrArg
	case x.Zxid <= m.last():
		return api.ErrLedgerZxid
	case len(m.entries) == 200, len(wire.PutEntry(x)) > m.log.Room():
		return api.ErrLedgerFull
	}
	e := m.behind(m.log.Append(wire.PutEntry(x)))
	if e == api.OK {
		m.entries = append(m.entries, own(x))
	}
	return e
}

func (m *model) sync() api.Errno {
	if m.doubt {
		return api.ErrDead
	}
	return m.behind(m.log.Sync())
}

// has tells whether a zxid is the base or an entry's.
func (m *model) has(zxid int) bool {
	return zxid == m.base || slices.ContainsFunc(m.entries, func(e api.Entry) bool { return e.Zxid == zxid })
}

func (m *model) above(zxid int) []api.Entry {
	l := []api.Entry{}
	for _, e := range m.entries {
		if e.Zxid > zxid {
			l = append(l, own(e))
		}
	}
	return l
}

func (m *model) cut(zxid int) api.Errno {
	switch {
	case m.doubt:
		return api.ErrDead
	case !m.has(zxid):
		return api.ErrLedgerZxid
	}
	stay := len(m.entries) - len(m.above(zxid))
	e := m.behind(m.log.Cut(1 + len(piecesOf(m.snapshot)) + stay))
	if e == api.OK {
		m.entries = m.entries[:stay]
	}
	return e
}

func (m *model) install(zxid int, snapshot string, entries []api.Entry) api.Errno {
	switch {
	case m.doubt:
		return api.ErrDead
	case zxid < 0, len(snapshot) > 65536, !allFit(entries):
		return api.ErrArg
	case !risesFrom(zxid, entries):
		return api.ErrLedgerZxid
	case len(entries) > 200:
		return api.ErrLedgerFull
	}
	e := m.behind(m.log.Renew(append(frontOf(zxid, snapshot), laidOf(entries)...)))
	if e == api.OK {
		m.base, m.snapshot, m.entries = zxid, snapshot, ownAll(entries)
	}
	return e
}

func (m *model) compact(zxid int, snapshot string) api.Errno {
	switch {
	case m.doubt:
		return api.ErrDead
	case len(snapshot) > 65536:
		return api.ErrArg
	case !m.has(zxid):
		return api.ErrLedgerZxid
	}
	return m.install(zxid, snapshot, m.above(zxid))
}

func (m *model) last() int {
	if len(m.entries) == 0 {
		return m.base
	}
	return m.entries[len(m.entries)-1].Zxid
}

func (m *model) marks() []int {
	of := map[int]int{}
	if m.base > 0 {
		of[m.base>>32] = m.base
	}
	for _, e := range m.entries {
		of[e.Zxid>>32] = max(e.Zxid, of[e.Zxid>>32])
	}
	l := []int{}
	for _, zxid := range of {
		l = append(l, zxid)
	}
	slices.Sort(l)
	return l
}

// state is what is told of a ledger.
type state struct {
	base, last        int
	snapshot          string
	entries           []api.Entry
	accepted, current int
	marks             []int
}

func (m *model) state() state {
	return state{m.base, m.last(), m.snapshot, ownAll(m.entries), m.accepted, m.current, m.marks()}
}

// synced is what lasts of it.
func (m *model) synced() state {
	x := *m
	x.entries = m.entries[:m.log.Synced()-1-len(piecesOf(m.snapshot))]
	return x.state()
}

func stateOf(l *ledger.Ledger) state {
	entries, _ := l.Entries(l.Base())
	marks := append([]int{}, l.Marks()...)
	return state{l.Base(), l.Last(), l.Snapshot(), ownAll(entries), l.Accepted(), l.Current(), marks}
}

func (s state) is(other state) bool { return reflect.DeepEqual(s, other) }

// pair is a ledger and its model, each on a disk of its own, to which the same calls are made.
type pair struct {
	t *testing.T
	d *disk.Disk
	l *ledger.Ledger
	m *model
	// quiet: what was told of it is not looked at behind each call.
	quiet bool
}

// newPair is of new disks, with an empty ledger.
func newPair(t *testing.T, sectors int) *pair {
	t.Helper()
	p := &pair{t: t, d: made(t, sectors), m: &model{d: made(t, sectors)}}
	p.format()
	return p
}

// crafted is of disks to which craft has done the same; there is no ledger yet.
func crafted(t *testing.T, sectors int, craft func(d *disk.Disk)) *pair {
	t.Helper()
	p := &pair{t: t, d: made(t, sectors), m: &model{d: made(t, sectors)}}
	craft(p.d)
	craft(p.m.d)
	return p
}

func (p *pair) format() {
	p.t.Helper()
	l, e := ledger.Format(p.d)
	m, want := formatModel(p.m.d)
	p.begun("Format", l, e, m, want)
}

func (p *pair) open() {
	p.t.Helper()
	l, e := ledger.Open(p.d)
	m, want := openModel(p.m.d)
	p.begun("Open", l, e, m, want)
}

// begun goes on with a ledger that was formatted or opened; with none, the one that was there stays.
func (p *pair) begun(call string, l *ledger.Ledger, e api.Errno, m *model, want api.Errno) {
	p.t.Helper()
	if e != want || (l == nil) != (want != api.OK) {
		p.t.Fatalf("%s: %v, %d, want %d", call, l, e, want)
	}
	p.sameDisk()
	if want == api.OK {
		p.l, p.m = l, m
		p.same()
	}
}

func (p *pair) accept(epoch int) {
	p.t.Helper()
	told(p.t, "Accept", p.l.Accept(epoch), p.m.accept(epoch))
	p.same()
}

func (p *pair) adopt(epoch int) {
	p.t.Helper()
	told(p.t, "Adopt", p.l.Adopt(epoch), p.m.adopt(epoch))
	p.same()
}

func (p *pair) append(e api.Entry) {
	p.t.Helper()
	told(p.t, "Append", p.l.Append(e), p.m.append(e))
	p.same()
}

func (p *pair) sync() {
	p.t.Helper()
	told(p.t, "Sync", p.l.Sync(), p.m.sync())
	p.same()
}

func (p *pair) cut(zxid int) {
	p.t.Helper()
	told(p.t, "Cut", p.l.Cut(zxid), p.m.cut(zxid))
	p.same()
}

func (p *pair) install(zxid int, snapshot string, entries ...api.Entry) {
	p.t.Helper()
	told(p.t, "Install", p.l.Install(zxid, snapshot, entries), p.m.install(zxid, snapshot, entries))
	p.same()
}

func (p *pair) compact(zxid int, snapshot string) {
	p.t.Helper()
	told(p.t, "Compact", p.l.Compact(zxid, snapshot), p.m.compact(zxid, snapshot))
	p.same()
}

func (p *pair) arm(n int) {
	p.t.Helper()
	told(p.t, "Arm", p.d.Arm(n), p.m.d.Arm(n))
}

func (p *pair) crash(how ...int) {
	p.d.Crash(how)
	p.m.d.Crash(how)
}

// same holds everything that is told of the ledger and of its disk against the model.
func (p *pair) same() {
	p.t.Helper()
	if p.quiet {
		return
	}
	p.sameDisk()
	if got, want := stateOf(p.l), p.m.state(); !got.is(want) {
		p.t.Errorf("the ledger is %s, want %s", brief(got), brief(want))
	}
	for _, zxid := range p.places() {
		p.sameEntries(zxid)
	}
}

// places are the zxids at which something begins or ends, and those beside them.
func (p *pair) places() []int {
	l := []int{p.m.base - 1, p.m.base, p.m.base + 1, p.m.last(), p.m.last() + 1, -1, 1<<63 - 1}
	if n := len(p.m.entries); n > 0 {
		some := p.m.entries[n/2].Zxid
		l = append(l, p.m.entries[0].Zxid, some-1, some, some+1)
	}
	return l
}

func (p *pair) sameEntries(zxid int) {
	p.t.Helper()
	got, e := p.l.Entries(zxid)
	if zxid < p.m.base {
		if len(got) > 0 || e != api.ErrLedgerZxid {
			p.t.Errorf("Entries(%d), below the base: %v, %d", zxid, got, e)
		}
		return
	}
	if !reflect.DeepEqual(ownAll(got), p.m.above(zxid)) || e != api.OK {
		p.t.Errorf("Entries(%d): %v, %d, want %v", zxid, got, e, p.m.above(zxid))
	}
}

func (p *pair) sameDisk() {
	p.t.Helper()
	if p.d.Dead() != p.m.d.Dead() || p.d.Acts() != p.m.d.Acts() {
		p.t.Fatalf("its disk: dead %t, %d acts, want %t, %d", p.d.Dead(), p.d.Acts(), p.m.d.Dead(), p.m.d.Acts())
	}
	if got, want := p.d.Pending(), p.m.d.Pending(); !slices.Equal(got, want) {
		p.t.Fatalf("its disk: pending %v, want %v", got, want)
	}
	for n := range p.d.Size() {
		got, _ := p.d.Read(n)
		if want, _ := p.m.d.Read(n); got != want {
			p.t.Fatalf("its disk: the sector %d is %q, want %q", n, got, want)
		}
	}
}

func made(t *testing.T, sectors int) *disk.Disk {
	t.Helper()
	d, e := disk.New(sectors)
	if d == nil || e != api.OK {
		t.Fatalf("New(%d): %v, %d", sectors, d, e)
	}
	return d
}

func told(t *testing.T, call string, got, want api.Errno) {
	t.Helper()
	if got != want {
		t.Errorf("%s: %d, want %d", call, got, want)
	}
}

func xs(n int) string { return strings.Repeat("x", n) }
