package ledger_test

import (
	"encoding/binary"
	"fmt"
	"math"
	"reflect"
	"slices"
	"strings"
	"testing"

	"arboretum/api"
	"arboretum/disk"
	"arboretum/ledger"
	"arboretum/wal"
	"arboretum/wire"
)

// epoch is how far the zxids of two epochs are from one another.
const epoch = 1 << 32

// large is how many sectors hold the longest snapshot and something more.
const large = 2400

var rows = []api.Acl{{Perms: 31, ID: "world"}, {Perms: 6, ID: "ann:7c48e6cd280a3c7a"}}

func at(zxid int) api.Entry { return api.Entry{Zxid: zxid} }

func ats(zxids ...int) []api.Entry {
	l := []api.Entry{}
	for _, zxid := range zxids {
		l = append(l, at(zxid))
	}
	return l
}

// many are so many entries behind a zxid.
func many(n, zxid int) []api.Entry {
	l := []api.Entry{}
	for i := range n {
		l = append(l, at(zxid+1+i))
	}
	return l
}

// rich has something in each field.
func rich(zxid int) api.Entry {
	part := api.Txn{Kind: api.TxnCreate, Path: "/a/b", Data: "\x00\xff", Acl: slices.Clone(rows), Owner: 589825, Number: 7, Err: 66}
	other := api.Txn{Kind: api.TxnSet, Path: "/a", Data: "d", Acl: slices.Clone(rows[1:]), Number: -1}
	whole := part
	whole.Kind, whole.Acl, whole.Subs = api.TxnMulti, slices.Clone(rows), []api.Txn{part, other, {}}
	return api.Entry{Zxid: zxid, Session: -3, Xid: math.MaxInt, Txn: whole}
}

// sized is one that is laid as so many bytes.
func sized(zxid, bytes int) api.Entry {
	for path := range 3 {
		for data := max(0, bytes-40); data < bytes; data++ {
			e := api.Entry{Zxid: zxid, Txn: api.Txn{Path: xs(path), Data: xs(data)}}
			if len(wire.PutEntry(e)) == bytes {
				return e
			}
		}
	}
	panic("no entry of so many bytes")
}

// deep is one that does not fit: a Sub of it has Subs.
func deep(zxid int) api.Entry {
	return api.Entry{Zxid: zxid, Txn: api.Txn{Subs: []api.Txn{{}, {Subs: []api.Txn{{}}}, {}}}}
}

func brief(x any) string {
	s := fmt.Sprintf("%+v", x)
	if len(s) > 400 {
		return fmt.Sprintf("%.400s .. (%d bytes)", s, len(s))
	}
	return s
}

// outline tells an entry by how much it has, however long it is or deep.
func outline(e api.Entry) string {
	t := e.Txn
	s := fmt.Sprintf("zxid %d, path %d, data %d, %d rows, %d Subs", e.Zxid, len(t.Path), len(t.Data), len(t.Acl), len(t.Subs))
	for _, sub := range t.Subs[:min(len(t.Subs), 3)] {
		s += fmt.Sprintf("; path %d, data %d, %d rows, %d Subs", len(sub.Path), len(sub.Data), len(sub.Acl), len(sub.Subs))
	}
	return s
}

// logged lays a log of these records and numbers.
func logged(a, b int, records ...string) func(d *disk.Disk) {
	return func(d *disk.Disk) {
		log, e := wal.Format(d)
		for _, s := range records {
			e = max(e, log.Append(s))
		}
		if e = max(e, log.Sync(), log.Mark(a, b)); e != api.OK {
			panic(e)
		}
	}
}

// aged lays the last mark of a log anew, with another count.
func aged(d *disk.Disk, count uint32) {
	last, found := []byte(nil), uint32(0)
	for n := range 2 {
		s, _ := d.Read(n)
		if has := binary.BigEndian.Uint32([]byte(s[2:])); has > found {
			last, found = []byte(s), has
		}
		d.Write(n, xs(64))
	}
	binary.BigEndian.PutUint32(last[2:], count)
	binary.BigEndian.PutUint32(last[60:], count)
	d.Write(int(count%2), string(last))
	d.Sync()
}

// age lets a ledger's log have a mark of that count, and opens it again.
func (p *pair) age(count uint32) {
	p.t.Helper()
	aged(p.d, count)
	aged(p.m.d, count)
	p.open()
}

func (p *pair) appendAll(l []api.Entry) {
	p.t.Helper()
	for _, e := range l {
		p.append(e)
	}
}

func TestExample(t *testing.T) {
	p := newPair(t, 64)
	told(t, "Accept", p.l.Accept(3), p.m.accept(3))
	for _, zxid := range []int{epoch + 1, epoch + 2} {
		told(t, "Append", p.l.Append(at(zxid)), p.m.append(at(zxid)))
	}
	told(t, "Adopt", p.l.Adopt(1), p.m.adopt(1))
	p.append(at(3*epoch + 1))
	p.crash(1, 1)
	p.open()
	l := p.l
	if l.Last() != epoch+2 || l.Accepted() != 3 || l.Current() != 1 || !slices.Equal(l.Marks(), []int{epoch + 2}) {
		t.Errorf("%s", brief(stateOf(l)))
	}
	told(t, "Adopt(4)", l.Adopt(4), api.ErrLedgerEpoch)
	told(t, "Accept(2)", l.Accept(2), api.ErrLedgerEpoch)
	told(t, "Cut(5)", l.Cut(5), api.ErrLedgerZxid)
	told(t, "Compact", l.Compact(epoch+1, "s"), p.m.compact(epoch+1, "s"))
	if got, e := l.Entries(0); l.Base() != epoch+1 || len(got) > 0 || e != api.ErrLedgerZxid {
		t.Errorf("Base %d, Entries(0): %v, %d", l.Base(), got, e)
	}
	p.same()
}

func TestH1Format(t *testing.T) {
	for _, n := range []int{16, 17, 18, 19, 64, 32768} {
		p := newPair(t, n)
		if p.d.Acts() != 7 || len(p.d.Pending()) != 0 {
			t.Errorf("of %d sectors: %d acts, pending %v", n, p.d.Acts(), p.d.Pending())
		}
		if got := stateOf(p.l); !got.is(state{entries: []api.Entry{}, marks: []int{}}) {
			t.Errorf("of %d sectors: %s", n, brief(got))
		}
		p.open()
	}
}

func TestH1OverWhatWasThere(t *testing.T) {
	p := newPair(t, 40)
	p.accept(9)
	p.install(7, "snapshot", at(8), at(epoch+9))
	p.adopt(9)
	p.append(at(9*epoch + 1))
	p.format()
	p.open()
	p.age(math.MaxUint32)
	p.format()
	p.accept(1)
	p.append(rich(1))
	p.sync()
	p.open()
}

// TestH1Dies: whatever a Format that died has left there, it was no Format.
func TestH1Dies(t *testing.T) {
	for n := 1; n <= 8; n++ {
		for _, how := range [][]int{nil, {1, 1}, {2 + 3*20, 2 + 3*5}, {1, 0}, {0, 1}} {
			for _, was := range []bool{false, true} {
				p := crafted(t, 20, func(d *disk.Disk) {})
				if was {
					p.format()
					p.install(3, "s", at(4))
					p.accept(2)
				}
				p.arm(n)
				p.format()
				if p.d.Dead() != (n < 8) {
					t.Errorf("armed at %d: dead: %t", n, p.d.Dead())
				}
				p.open()
				p.crash(how...)
				p.open()
			}
		}
	}
}

func TestH1H2None(t *testing.T) {
	for name, call := range map[string]func(d *disk.Disk) (*ledger.Ledger, api.Errno){"Format": ledger.Format, "Open": ledger.Open} {
		if l, e := call(nil); l != nil || e != api.ErrArg {
			t.Errorf("%s of nil: %v, %d", name, l, e)
		}
		for _, craft := range []func(d *disk.Disk){func(d *disk.Disk) {}, logged(0, 0, "\x00\x00"), logged(0, 0)} {
			d := made(t, 16)
			craft(d)
			d.Arm(1)
			d.Sync()
			acts := d.Acts()
			if l, e := call(d); l != nil || e != api.ErrDead || d.Acts() != acts {
				t.Errorf("%s of a dead disk: %v, %d", name, l, e)
			}
		}
	}
}

// opens tells whether a log of these records and numbers is a ledger that is right; the model's own word is held against that, too.
func opens(t *testing.T, what string, right bool, a, b int, records ...string) {
	t.Helper()
	p := crafted(t, large, logged(a, b, records...))
	acts := p.d.Acts()
	l, e := ledger.Open(p.d)
	m, want := openModel(p.m.d)
	if right != (want == api.OK) {
		t.Errorf("%s: the model answers %d", what, want)
	}
	if e != want || (l == nil) != (want != api.OK) || p.d.Acts() != acts {
		t.Errorf("%s: %v, %d, want %d", what, l, e, want)
		return
	}
	if p.l, p.m = l, m; right {
		p.same()
		p.append(at(p.m.last() + 1))
		p.compact(p.m.last(), "goes on")
		p.open()
	}
}

func TestH2Heads(t *testing.T) {
	for _, base := range []int{0, 1, 63, 64, epoch - 1, epoch, epoch + 1, math.MaxInt - 2} {
		opens(t, fmt.Sprint("the base ", base), true, 0, 0, headOf(base, 0))
	}
	for _, base := range []int{-1, -2, -64, -epoch, math.MinInt} {
		opens(t, fmt.Sprint("the base ", base), false, 0, 0, headOf(base, 0))
		opens(t, fmt.Sprint("the base ", base, " and an entry"), false, 0, 0, headOf(base, 0), wire.PutEntry(at(1)))
	}
	opens(t, "no records", false, 0, 0)
	for _, s := range []string{"", "\x00", "\x80", "\x00\x80", "\x00\x00\x00", "\x00\x80\x00", "\x80\x00\x00", "\x00\x00x", "TREE", headOf(0, -1), headOf(0, math.MaxInt), "\x00\x00\x00\x00", "\x02"} {
		opens(t, fmt.Sprintf("the head %q", s), false, 0, 0, s)
		opens(t, fmt.Sprintf("the head %q and an entry", s), false, 0, 0, s, wire.PutEntry(at(9)))
	}
	opens(t, "an entry for a head", false, 0, 0, wire.PutEntry(at(9)))
	opens(t, "two heads", false, 0, 0, headOf(0, 0), headOf(0, 0))
}

func TestH2Pieces(t *testing.T) {
	for _, n := range []int{0, 1, 2, 3999, 4000, 4001, 7999, 8000, 8001, 64000, 65535, 65536} {
		opens(t, fmt.Sprint(n, " bytes"), true, 0, 0, frontOf(5, xs(n))...)
		opens(t, fmt.Sprint(n, " bytes and an entry"), true, 0, 0, append(frontOf(5, xs(n)), wire.PutEntry(at(6)))...)
		for _, not := range []int{n - 1, n + 1, n - 4000, n + 4000, 0, 1 << 40} {
			if not >= 0 && not != n {
				opens(t, fmt.Sprint(n, " bytes told as ", not), false, 0, 0, append([]string{headOf(5, not)}, piecesOf(xs(n))...)...)
			}
		}
		opens(t, fmt.Sprint(n, " bytes, a piece more"), false, 0, 0, append(frontOf(5, xs(n)), "")...)
	}
	for _, n := range []int{65537, 65600, 68000, 68001} {
		opens(t, fmt.Sprint(n, " bytes"), false, 0, 0, frontOf(5, xs(n))...)
		opens(t, fmt.Sprint(n, " bytes told as 65536"), false, 0, 0, append([]string{headOf(5, 65536)}, piecesOf(xs(n))...)...)
	}
	for _, cut := range [][]int{{2, 1}, {1, 2}, {1, 1, 1}, {3, 0}, {0, 3}, {4000, 0, 1}, {3999, 2}, {3999, 4000}, {1, 4000}, {2000, 2000}, {4000, 1, 0}, {4000, 3999, 2}, {0}} {
		records, bytes := []string{""}, 0
		for _, n := range cut {
			records, bytes = append(records, xs(n)), bytes+n
		}
		records[0] = headOf(0, bytes)
		opens(t, fmt.Sprint("pieces of ", cut), false, 0, 0, records...)
	}
	// A piece may look like an entry: it is told by its place alone.
	looks := wire.PutEntry(at(7))
	opens(t, "a snapshot that looks like an entry", true, 0, 0, headOf(5, len(looks)), looks, wire.PutEntry(at(6)))
	opens(t, "an entry that looks like a snapshot", false, 0, 0, headOf(5, 0), "snapshot")
	opens(t, "an entry where a snapshot must be", false, 0, 0, headOf(5, 3), looks)
}

func TestH2Entries(t *testing.T) {
	with := func(what string, right bool, base int, entries ...api.Entry) {
		t.Helper()
		opens(t, what, right, 0, 0, append([]string{headOf(base, 0)}, laidOf(entries)...)...)
		opens(t, what+", behind a snapshot", right, 0, 0, append(frontOf(base, xs(4003)), laidOf(entries)...)...)
	}
	with("one", true, 5, at(6))
	with("some", true, 5, at(6), rich(9), at(epoch+1), at(1<<62+epoch+7), rich(math.MaxInt-9))
	with("one at the base", false, 5, at(5))
	with("one below the base", false, 5, at(4))
	with("one at 0", false, 0, at(0))
	with("one below 0", false, 0, at(-1))
	with("the least", false, 0, at(math.MinInt))
	with("two alike", false, 5, at(6), at(6))
	with("falling", false, 5, at(7), at(6))
	with("falling later", false, 5, at(6), at(8), at(7), at(9))
	with("the last one falling", false, 5, at(6), at(8), at(7))
	with("199", true, 5, many(199, 5)...)
	with("200", true, 5, many(200, 5)...)
	with("201", false, 5, many(201, 5)...)
	with("300", false, 5, many(300, 5)...)
	with("a list of 256", true, 5, api.Entry{Zxid: 6, Txn: api.Txn{Subs: make([]api.Txn, 256), Acl: make([]api.Acl, 256)}})
	with("Subs of 257", false, 5, api.Entry{Zxid: 6, Txn: api.Txn{Subs: make([]api.Txn, 257)}})
	with("an ACL of 257", false, 5, at(6), api.Entry{Zxid: 7, Txn: api.Txn{Acl: make([]api.Acl, 257)}}, at(8))
	good := wire.PutEntry(rich(6))
	for _, s := range []string{"", good[:len(good)-1], good + "\x00", good[1:], "\x0c", wire.PutEvent(api.Event{Kind: 3, Path: "/a", Zxid: 7})} {
		opens(t, fmt.Sprintf("%q for an entry", s), false, 0, 0, headOf(0, 0), s)
		opens(t, fmt.Sprintf("%q for a second entry", s), false, 0, 0, headOf(0, 0), wire.PutEntry(at(5)), s)
		opens(t, fmt.Sprintf("%q for a first entry", s), false, 0, 0, headOf(0, 0), s, wire.PutEntry(at(7)))
	}
}

func TestH2Epochs(t *testing.T) {
	for _, c := range []struct {
		accepted, current int
		right             bool
	}{
		{0, 0, true}, {1, 0, true}, {1, 1, true}, {7, 3, true}, {1 << 30, 0, true}, {1 << 30, 1 << 30, true}, {1<<30 - 1, 1<<30 - 1, true},
		{0, 1, false}, {6, 7, false}, {1<<30 + 1, 0, false}, {1<<30 + 1, 1<<30 + 1, false}, {1 << 30, 1<<30 + 1, false}, {1<<30 + 1, 1 << 30, false},
		{0, math.MaxInt, false}, {math.MaxInt, 0, false}, {math.MaxInt, math.MaxInt, false},
	} {
		opens(t, fmt.Sprint("the epochs ", c), c.right, c.accepted, c.current, headOf(0, 0), wire.PutEntry(at(1)))
	}
}

func TestH2NoLog(t *testing.T) {
	for name, craft := range map[string]func(d *disk.Disk){
		"zeros": func(d *disk.Disk) {},
		"an empty log": func(d *disk.Disk) {
			wal.Format(d)
		},
		"a head that was not synced": func(d *disk.Disk) {
			l, _ := wal.Format(d)
			l.Append("\x00\x00")
		},
		"a record that is broken": func(d *disk.Disk) {
			ledger.Format(d)
			d.Write(2, xs(64))
		},
		"no mark": func(d *disk.Disk) {
			ledger.Format(d)
			d.Write(0, xs(64))
			d.Write(1, xs(64))
		},
	} {
		p := crafted(t, 16, craft)
		acts := p.d.Acts()
		p.open()
		if l, e := ledger.Open(p.d); l != nil || e != api.ErrLedgerForm || p.d.Acts() != acts {
			t.Errorf("%s: %v, %d, %d acts", name, l, e, p.d.Acts()-acts)
		}
	}
}

// TestH2Unsynced: what was appended to the log and not synced is no part of what Open finds, be it right or not.
func TestH2Unsynced(t *testing.T) {
	p := crafted(t, 40, func(d *disk.Disk) {
		logged(4, 2, headOf(3, 2), "ab", wire.PutEntry(at(5)))(d)
		l, _ := wal.Open(d)
		l.Append("no entry")
	})
	p.open()
	if got := stateOf(p.l); got.last != 5 || got.base != 3 || got.snapshot != "ab" || got.accepted != 4 || got.current != 2 {
		t.Errorf("%s", brief(got))
	}
}

func TestH3Accept(t *testing.T) {
	p := newPair(t, 30)
	acts := func(what string, want int, call func()) {
		t.Helper()
		was := p.d.Acts()
		if call(); p.d.Acts()-was != want {
			t.Errorf("%s: %d acts, want %d", what, p.d.Acts()-was, want)
		}
	}
	acts("the same", 0, func() { p.accept(0) })
	acts("below 0", 0, func() { p.accept(-1) })
	acts("the least", 0, func() { p.accept(math.MinInt) })
	acts("3", 2, func() { p.accept(3) })
	acts("3 again", 0, func() { p.accept(3) })
	told(t, "below", p.l.Accept(2), api.ErrLedgerEpoch)
	told(t, "0", p.l.Accept(0), api.ErrLedgerEpoch)
	p.append(at(9))
	acts("1000, without what is not synced", 2, func() { p.accept(1000) })
	p.crash(1, 1, 1)
	p.open()
	if p.l.Last() != 0 || p.l.Accepted() != 1000 || p.l.Current() != 0 {
		t.Errorf("%s", brief(stateOf(p.l)))
	}
	for _, epoch := range []int{1<<30 + 1, 1 << 31, epoch, math.MaxInt} {
		told(t, fmt.Sprint(epoch), p.l.Accept(epoch), api.ErrLedgerEpoch)
	}
	acts("the greatest but one", 2, func() { p.accept(1<<30 - 1) })
	acts("the greatest", 2, func() { p.accept(1 << 30) })
	acts("the greatest again", 0, func() { p.accept(1 << 30) })
	acts("one more", 0, func() { p.accept(1<<30 + 1) })
	p.open()
}

func TestH3Adopt(t *testing.T) {
	p := newPair(t, 30)
	acts := func(what string, want int, call func()) {
		t.Helper()
		was := p.d.Acts()
		if call(); p.d.Acts()-was != want {
			t.Errorf("%s: %d acts, want %d", what, p.d.Acts()-was, want)
		}
	}
	acts("1 ahead of Accept", 0, func() { p.adopt(1) })
	acts("0", 2, func() { p.adopt(0) })
	acts("below 0", 0, func() { p.adopt(-1) })
	p.accept(5)
	acts("6 of 5", 0, func() { p.adopt(6) })
	told(t, "6 of 5", p.l.Adopt(6), api.ErrLedgerEpoch)
	acts("2", 2, func() { p.adopt(2) })
	acts("2 again", 2, func() { p.adopt(2) })
	told(t, "1 behind 2", p.l.Adopt(1), api.ErrLedgerEpoch)
	told(t, "0 behind 2", p.l.Adopt(0), api.ErrLedgerEpoch)
	told(t, "the least", p.l.Adopt(math.MinInt), api.ErrLedgerEpoch)
	told(t, "the greatest", p.l.Adopt(math.MaxInt), api.ErrLedgerEpoch)
	p.append(at(9))
	acts("3, and an entry", 5, func() { p.adopt(3) })
	p.append(at(10))
	acts("3 again, and an entry", 5, func() { p.adopt(3) })
	p.crash()
	p.open()
	if p.l.Last() != 10 || p.l.Accepted() != 5 || p.l.Current() != 3 {
		t.Errorf("%s", brief(stateOf(p.l)))
	}
	p.accept(1 << 30)
	p.adopt(1 << 30)
	p.adopt(1<<30 + 1)
	p.open()
}

// long are entries that do not fit, and ones that just do.
func long(zxid int) (do, not []api.Entry) {
	list := func(n int, t api.Txn) []api.Txn { return slices.Repeat([]api.Txn{t}, n) }
	for _, n := range []int{4096, 4097, 1 << 16} {
		for _, t := range []api.Txn{
			{Path: xs(n)}, {Data: xs(n)}, {Acl: []api.Acl{{}, {ID: xs(n)}}},
			{Subs: []api.Txn{{}, {Path: xs(n)}}}, {Subs: []api.Txn{{Data: xs(n)}}}, {Subs: []api.Txn{{Acl: []api.Acl{{ID: xs(n)}}}, {}}},
		} {
			if e := (api.Entry{Zxid: zxid, Txn: t}); n <= 4096 {
				do = append(do, e)
			} else {
				not = append(not, e)
			}
		}
	}
	for _, n := range []int{256, 257, 2000} {
		for _, t := range []api.Txn{{Acl: make([]api.Acl, n)}, {Subs: list(n, api.Txn{})}, {Subs: list(1, api.Txn{Acl: make([]api.Acl, n)})}} {
			if e := (api.Entry{Zxid: zxid, Txn: t}); n <= 256 {
				do = append(do, e)
			} else {
				not = append(not, e)
			}
		}
	}
	loop := api.Txn{Subs: make([]api.Txn, 1)}
	loop.Subs[0] = loop
	do = append(do, rich(zxid), api.Entry{Zxid: zxid, Session: math.MinInt, Xid: math.MinInt, Txn: api.Txn{Kind: math.MinInt, Owner: math.MaxInt, Number: math.MinInt, Err: math.MaxInt, Acl: []api.Acl{{Perms: math.MinInt}}}})
	do = append(do, api.Entry{Zxid: zxid, Txn: api.Txn{Subs: []api.Txn{{Subs: []api.Txn{}, Acl: []api.Acl{}}}}})
	not = append(not, deep(zxid), api.Entry{Zxid: zxid, Txn: loop})
	return do, not
}

func TestH4Fits(t *testing.T) {
	do, not := long(7)
	for _, e := range do {
		p := newPair(t, 400)
		p.append(e) // too long a record, perhaps, but one that fits
		if got := p.l.Append(e); got == api.ErrArg {
			t.Errorf("%s does not fit", outline(e))
		}
		p.sync()
		p.open()
	}
	for _, e := range not {
		p := newPair(t, 400)
		told(t, "Append of "+outline(e), p.l.Append(e), api.ErrArg)
		p.append(e)
		if p.d.Acts() != 7 {
			t.Errorf("Append of %s: %d acts", outline(e), p.d.Acts()-7)
		}
	}
}

func TestH4Zxids(t *testing.T) {
	p := newPair(t, 60)
	for _, zxid := range []int{0, -1, math.MinInt} {
		told(t, fmt.Sprint("Append of ", zxid), p.l.Append(at(zxid)), api.ErrLedgerZxid)
		p.append(at(zxid))
	}
	// A zxid need not be of an epoch that is there, nor come behind the last one at once.
	for _, zxid := range []int{1, 2, 9, epoch, epoch + 1, 3*epoch + 7, 1<<62 + 5, math.MaxInt} {
		p.append(at(zxid))
		if p.l.Last() != zxid {
			t.Errorf("Last: %d, want %d", p.l.Last(), zxid)
		}
		for _, not := range []int{zxid, zxid - 1, 1, 0, -1} {
			told(t, fmt.Sprint("Append of ", not, " behind ", zxid), p.l.Append(at(not)), api.ErrLedgerZxid)
		}
		p.append(rich(zxid))
	}
	p.sync()
	p.open()
	p.append(at(math.MaxInt))
	q := newPair(t, 60)
	q.install(50, "s")
	q.append(at(50))
	q.append(at(49))
	q.append(at(51))
	q.cut(50)
	q.append(at(51))
}

func TestH4Full(t *testing.T) {
	p := newPair(t, 2000)
	p.appendAll(many(199, 0))
	p.append(at(200))
	told(t, "the 201st", p.l.Append(at(201)), api.ErrLedgerFull)
	told(t, "the 201st, of a low zxid", p.l.Append(at(200)), api.ErrLedgerZxid)
	_, not := long(201)
	told(t, "the 201st, which does not fit", p.l.Append(not[0]), api.ErrArg)
	p.append(at(201))
	p.sync()
	p.open()
	p.append(at(201))
	p.compact(1, "s")
	p.append(at(201))
	p.append(at(202))
	p.cut(3)
	p.append(at(4))
}

// TestH4Room: an entry of as many bytes as chapter 4 tells, and of one more.
func TestH4Room(t *testing.T) {
	for _, sectors := range []int{16, 17, 18, 21, 66, 67, 130, 200} {
		p := newPair(t, sectors)
		area := 64*((sectors-2)/2) - 8 // the first record has 2 bytes, and 6 about it
		for zxid := 1; ; zxid++ {
			room := min(4000, area-6)
			if room < 20 {
				break
			}
			told(t, "Append of one too long", p.l.Append(sized(zxid, room+1)), api.ErrLedgerFull)
			told(t, "Append of a low one too long", p.l.Append(sized(zxid-1, room+1)), api.ErrLedgerZxid)
			p.append(sized(zxid, room+1))
			some := room
			if zxid%3 == 1 && room > 60 {
				some = room - 40
			}
			p.append(sized(zxid, some))
			if area -= some + 6; p.l.Last() != zxid {
				t.Fatalf("of %d sectors: an entry of %d bytes was refused", sectors, some)
			}
		}
		p.append(at(99))
		p.sync()
		p.open()
	}
}

func TestH4Sync(t *testing.T) {
	p := newPair(t, 30)
	acts := p.d.Acts()
	p.sync()
	p.append(at(1))
	p.append(at(2))
	if p.d.Acts() != acts+2 {
		t.Errorf("%d acts", p.d.Acts()-acts)
	}
	p.sync()
	p.sync()
	if p.d.Acts() != acts+5 {
		t.Errorf("%d acts", p.d.Acts()-acts)
	}
	p.append(rich(3))
	p.crash(1, 1, 1, 1, 1)
	p.open()
	if p.l.Last() != 2 {
		t.Errorf("Last: %d", p.l.Last())
	}
}

func TestH5Cut(t *testing.T) {
	for _, snapshot := range []string{"", "s", xs(4000), xs(4001), xs(8001)} {
		for _, synced := range []bool{true, false} {
			for _, zxid := range []int{5, 6, 9, epoch + 1, 4, 7, 8, 0, -1, epoch, epoch + 2, math.MaxInt, math.MinInt} {
				p := newPair(t, 600)
				p.install(5, snapshot, at(6))
				p.appendAll([]api.Entry{rich(9), at(epoch + 1)})
				if synced {
					p.sync()
				}
				acts := p.d.Acts()
				p.cut(zxid)
				there := slices.Contains([]int{5, 6, 9, epoch + 1}, zxid)
				if there != (p.l.Last() == zxid) || there != (p.d.Acts() == acts+3) {
					t.Errorf("Cut(%d): Last %d, %d acts", zxid, p.l.Last(), p.d.Acts()-acts)
				}
				p.append(at(p.m.last() + 1))
				p.crash()
				p.open()
			}
		}
	}
}

func TestH5Install(t *testing.T) {
	p := newPair(t, large)
	p.accept(4)
	p.adopt(2)
	for _, n := range []int{0, 1, 3999, 4000, 4001, 8000, 8001, 65535, 65536} {
		p.install(n, xs(n), rich(n+1), at(n+7), at(5*epoch+n))
		if p.l.Snapshot() != xs(n) || p.l.Base() != n || p.l.Last() != 5*epoch+n {
			t.Errorf("of %d bytes: %s", n, brief(stateOf(p.l)))
		}
		p.append(at(6 * epoch))
		p.open()
	}
	p.install(math.MaxInt, "")
	p.install(0, "")
	p.install(0, "", at(1))
	p.install(0, "\x00\xff\x80")
	p.install(epoch, "", at(math.MaxInt))
	p.open()
}

// TestH5Most: as many entries as there may be.
func TestH5Most(t *testing.T) {
	p := newPair(t, large)
	p.accept(1)
	told(t, "Install of 200", p.l.Install(5, xs(65536), many(200, 5)), p.m.install(5, xs(65536), many(200, 5)))
	p.same()
	p.open()
	told(t, "Compact of 200", p.l.Compact(5, "s"), p.m.compact(5, "s"))
	p.same()
	if got, e := p.l.Entries(5); len(got) != 200 || e != api.OK || p.l.Last() != 205 || p.l.Snapshot() != "s" {
		t.Errorf("%d entries, %d, Last %d", len(got), e, p.l.Last())
	}
	p.adopt(1)
	p.cut(204)
	p.append(rich(205))
	p.append(at(206))
	p.open()
}

func TestH5InstallRefused(t *testing.T) {
	do, not := long(8)
	for _, c := range []struct {
		name     string
		zxid     int
		snapshot string
		entries  []api.Entry
		e        api.Errno
	}{
		{"a zxid below 0", -1, "", nil, api.ErrArg},
		{"the least", math.MinInt, "", nil, api.ErrArg},
		{"a long snapshot", 5, xs(65537), nil, api.ErrArg},
		{"a very long snapshot", 5, xs(1 << 20), ats(6), api.ErrArg},
		{"at the base", 5, "", ats(5), api.ErrLedgerZxid},
		{"below the base", 5, "", ats(4, 6), api.ErrLedgerZxid},
		{"at 0", 0, "", ats(0), api.ErrLedgerZxid},
		{"below 0", 0, "", ats(-1), api.ErrLedgerZxid},
		{"two alike", 5, "", ats(6, 6), api.ErrLedgerZxid},
		{"falling", 5, "", ats(6, 8, 7, 9), api.ErrLedgerZxid},
		{"falling last", 5, "", ats(6, 8, 7), api.ErrLedgerZxid},
		{"behind the greatest", math.MaxInt, "", ats(math.MinInt), api.ErrLedgerZxid},
		{"201", 5, "", many(201, 5), api.ErrLedgerFull},
		{"1000", 5, "", many(1000, 5), api.ErrLedgerFull},
		{"201, one of them low", 5, "", append(many(200, 5), at(7)), api.ErrLedgerZxid},
		{"201, and a zxid below 0", -1, "", many(201, -1), api.ErrArg},
		{"201, one of which does not fit", 5, "", append(many(200, 8), not[0]), api.ErrArg},
		{"one that does not fit, of a low zxid", 9, "", append(ats(11, 10), not[0]), api.ErrArg},
		{"a long snapshot, and a low zxid", 5, xs(65537), ats(5), api.ErrArg},
		{"a record of 4001 bytes", 5, "", []api.Entry{at(6), sized(7, 4001), at(8)}, api.ErrLedgerFull},
		{"a record of 4001 bytes, and falling", 5, "", []api.Entry{at(6), sized(7, 4001), at(6)}, api.ErrLedgerZxid},
		{"a record that fits", 5, "", []api.Entry{do[0]}, api.ErrLedgerFull},
		{"more than an area", 5, xs(65536), []api.Entry{sized(6, 4000), sized(7, 4000), sized(8, 4000)}, api.ErrLedgerFull},
	} {
		p := newPair(t, large)
		p.install(3, "was", rich(6), at(9))
		p.append(at(epoch))
		acts := p.d.Acts()
		told(t, c.name, p.l.Install(c.zxid, c.snapshot, c.entries), c.e)
		p.install(c.zxid, c.snapshot, c.entries...)
		if p.d.Acts() != acts {
			t.Errorf("%s: %d acts", c.name, p.d.Acts()-acts)
		}
		p.sync()
		p.open()
	}
	for _, e := range not {
		p := newPair(t, 20)
		told(t, "Install of "+outline(e), p.l.Install(0, "", []api.Entry{at(7), e, at(9)}), api.ErrArg)
		p.install(0, "", e)
	}
}

// TestH5InstallFits: an area that is filled to its last byte, and one byte more.
func TestH5InstallFits(t *testing.T) {
	for _, sectors := range []int{16, 130, 200} {
		area := 64 * ((sectors - 2) / 2)
		p := newPair(t, sectors)
		for _, bytes := range []int{area - 1, area, area + 1, area + 2} {
			// A head with the base 9, a snapshot of 100 bytes, an entry of 50, and one of what is left.
			left := bytes - (2 + 6) - (100 + 6) - (50 + 6) - 6
			entries := []api.Entry{sized(10, 50)}
			for zxid := 11; left > 0; zxid++ {
				some := min(left, 3000)
				entries = append(entries, sized(zxid, some))
				left -= some + 6
			}
			want := api.OK
			if bytes > area {
				want = api.ErrLedgerFull
			}
			told(t, fmt.Sprint(bytes, " of ", area, " bytes"), p.l.Install(9, xs(100), entries), want)
			told(t, "the model's", p.m.install(9, xs(100), entries), want)
			p.same()
			p.open()
		}
	}
}

func TestH5Compact(t *testing.T) {
	for _, synced := range []bool{true, false} {
		for _, zxid := range []int{5, 6, 9, epoch + 1, 4, 7, 8, 0, -1, epoch, epoch + 2, math.MaxInt, math.MinInt} {
			for _, snapshot := range []string{"", "new", xs(4001), xs(65536), xs(65537)} {
				p := newPair(t, large)
				p.install(5, xs(4500), at(6))
				p.appendAll([]api.Entry{rich(9), at(epoch + 1)})
				if synced {
					p.sync()
				}
				last := p.l.Last()
				p.compact(zxid, snapshot)
				there := slices.Contains([]int{5, 6, 9, epoch + 1}, zxid) && len(snapshot) <= 65536
				if there != (p.l.Base() == zxid && p.l.Snapshot() == snapshot) || p.l.Last() != last {
					t.Errorf("Compact(%d): %s", zxid, brief(stateOf(p.l)))
				}
				p.append(at(last + 1))
				p.crash()
				p.open()
			}
		}
	}
	p := newPair(t, 40)
	told(t, "a long snapshot, and no such zxid", p.l.Compact(9, xs(65537)), api.ErrArg)
	told(t, "a long snapshot, and the base", p.l.Compact(0, xs(65537)), api.ErrArg)
	told(t, "no such zxid", p.l.Compact(9, xs(65536)), api.ErrLedgerZxid)
	told(t, "more than an area", p.l.Compact(0, xs(65536)), api.ErrLedgerFull)
	p.compact(0, xs(1217))
	p.compact(0, xs(1203))
	p.same()
}

// TestH5Again: calls behind one another, on what the ones ahead have left.
func TestH5Again(t *testing.T) {
	p := newPair(t, 100)
	p.appendAll(many(9, epoch))
	p.compact(epoch+4, "four")
	p.cut(epoch + 7)
	p.append(rich(2 * epoch))
	p.compact(epoch+6, "six")
	p.appendAll(many(5, 2*epoch))
	p.cut(epoch + 6)
	p.append(at(epoch + 7))
	p.append(at(epoch + 8))
	p.compact(epoch+6, "six again")
	p.compact(epoch+8, "eight")
	p.cut(epoch + 8)
	p.append(at(epoch + 9))
	p.install(4, "four", at(5))
	p.cut(4)
	p.cut(4)
	p.open()
}

// TestH6Counts: a log whose marks have come to an end takes nothing that needs one more.
func TestH6Counts(t *testing.T) {
	begin := func(count uint32) *pair {
		p := newPair(t, 40)
		p.accept(5)
		p.adopt(3)
		p.install(2, "s", at(3), at(4))
		p.age(count)
		p.append(at(5))
		return p
	}
	p := begin(math.MaxUint32)
	told(t, "Accept", p.l.Accept(6), api.ErrLedgerFull)
	told(t, "Accept of the same", p.l.Accept(5), api.OK)
	told(t, "Accept of one below", p.l.Accept(4), api.ErrLedgerEpoch)
	told(t, "Adopt", p.l.Adopt(4), api.ErrLedgerFull)
	told(t, "Sync", p.l.Sync(), api.ErrLedgerFull)
	told(t, "Cut", p.l.Cut(3), api.ErrLedgerFull)
	told(t, "Cut of none", p.l.Cut(7), api.ErrLedgerZxid)
	told(t, "Install", p.l.Install(0, "", nil), api.ErrLedgerFull)
	told(t, "Compact", p.l.Compact(3, ""), api.ErrLedgerFull)
	p.same()
	p.append(at(6))
	p.append(at(6))
	p.open()
	told(t, "Sync of nothing", p.l.Sync(), api.OK)
	told(t, "Adopt", p.l.Adopt(3), api.ErrLedgerFull)
	p.same()
	p.accept(6)

	p = begin(math.MaxUint32 - 1)
	told(t, "Adopt, whose Sync takes the last mark", p.l.Adopt(4), api.ErrLedgerFull)
	p.m.adopt(4)
	p.same()
	p.open()
	if got := stateOf(p.l); got.last != 5 || got.current != 3 {
		t.Errorf("behind it: %s", brief(got))
	}

	for name, call := range map[string]func(p *pair){
		"Accept":  func(p *pair) { p.accept(9) },
		"Sync":    func(p *pair) { p.sync() },
		"Cut":     func(p *pair) { p.cut(3) },
		"Install": func(p *pair) { p.install(8, "eight", at(9)) },
		"Compact": func(p *pair) { p.compact(3, "three") },
	} {
		p = begin(math.MaxUint32 - 1)
		call(p)
		p.open()
		if call(p); t.Failed() {
			t.Fatal(name)
		}
	}
}

func TestH7Entries(t *testing.T) {
	p := newPair(t, 200)
	p.install(10, "s", rich(12), at(15), rich(epoch))
	p.append(rich(epoch + 9))
	all := []api.Entry{rich(12), at(15), rich(epoch), rich(epoch + 9)}
	for _, c := range []struct{ zxid, first int }{
		{10, 0}, {11, 0}, {12, 1}, {13, 1}, {14, 1}, {15, 2}, {16, 2}, {epoch - 1, 2}, {epoch, 3}, {epoch + 8, 3}, {epoch + 9, 4}, {epoch + 10, 4}, {math.MaxInt, 4},
	} {
		got, e := p.l.Entries(c.zxid)
		if !reflect.DeepEqual(ownAll(got), ownAll(all[c.first:])) || e != api.OK {
			t.Errorf("Entries(%d): %s, %d", c.zxid, brief(got), e)
		}
	}
	for _, zxid := range []int{9, 0, -1, math.MinInt} {
		if got, e := p.l.Entries(zxid); len(got) > 0 || e != api.ErrLedgerZxid {
			t.Errorf("Entries(%d): %s, %d", zxid, brief(got), e)
		}
	}
	l := newPair(t, 20).l
	if got, e := l.Entries(0); len(got) > 0 || e != api.OK {
		t.Errorf("Entries(0) of an empty one: %v, %d", got, e)
	}
	if got, e := l.Entries(-1); len(got) > 0 || e != api.ErrLedgerZxid {
		t.Errorf("Entries(-1) of an empty one: %v, %d", got, e)
	}
}

func TestH7Marks(t *testing.T) {
	for _, c := range []struct {
		base          int
		entries, want []int
	}{
		{0, nil, nil},
		{0, []int{1}, []int{1}},
		{0, []int{epoch - 1}, []int{epoch - 1}},
		{0, []int{1, epoch - 1, epoch, epoch + 1}, []int{epoch - 1, epoch + 1}},
		{0, []int{1, epoch}, []int{1, epoch}},
		{0, []int{epoch + 1, epoch + 2, 3*epoch + 1}, []int{epoch + 2, 3*epoch + 1}},
		{7, nil, []int{7}},
		{7, []int{8}, []int{8}},
		{7, []int{epoch + 1}, []int{7, epoch + 1}},
		{epoch, nil, []int{epoch}},
		{2*epoch + 5, nil, []int{2*epoch + 5}},
		{2*epoch + 5, []int{2*epoch + 6, 2*epoch + 9}, []int{2*epoch + 9}},
		{2*epoch + 5, []int{3 * epoch, 3*epoch + 1, 9 * epoch}, []int{2*epoch + 5, 3*epoch + 1, 9 * epoch}},
		{2*epoch - 1, []int{2 * epoch, 3*epoch - 1, 3 * epoch}, []int{2*epoch - 1, 3*epoch - 1, 3 * epoch}},
		{1<<62 + 1, []int{1<<62 + 2, math.MaxInt - 1, math.MaxInt}, []int{1<<62 + 2, math.MaxInt}},
	} {
		p := newPair(t, 60)
		p.install(c.base, "", ats(c.entries...)...)
		if got := p.l.Marks(); !slices.Equal(got, c.want) {
			t.Errorf("Marks of %d, %v: %v, want %v", c.base, c.entries, got, c.want)
		}
		p.open()
		if got := p.l.Marks(); !slices.Equal(got, c.want) {
			t.Errorf("Marks of %d, %v, opened: %v, want %v", c.base, c.entries, got, c.want)
		}
	}
}

// TestKeepsNothing: what was handed in may be changed behind the call, and is not changed by it.
func TestKeepsNothing(t *testing.T) {
	in := func() []api.Entry { return []api.Entry{rich(epoch + 1), rich(epoch + 2), at(epoch + 3)} }
	for name, call := range map[string]func(p *pair, l []api.Entry){
		"Append": func(p *pair, l []api.Entry) {
			for _, e := range l {
				told(t, "Append", p.l.Append(e), api.OK)
				p.m.append(e)
			}
		},
		"Install": func(p *pair, l []api.Entry) {
			told(t, "Install", p.l.Install(1, "s", l), api.OK)
			p.m.install(1, "s", l)
		},
		"Install refused": func(p *pair, l []api.Entry) {
			told(t, "Install", p.l.Install(math.MaxInt, "s", l), api.ErrLedgerZxid)
		},
	} {
		p := newPair(t, 200)
		// Spare room behind all lists, which is nobody's but the caller's.
		room := append(in(), rich(77), rich(78))
		l := room[:3]
		for i := range room {
			room[i].Txn.Acl = append(room[i].Txn.Acl, api.Acl{Perms: 9, ID: "spare"})[:len(room[i].Txn.Acl)]
			room[i].Txn.Subs = append(room[i].Txn.Subs, api.Txn{Path: "spare"})[:len(room[i].Txn.Subs)]
		}
		was := ownAll(room)
		call(p, l)
		if !reflect.DeepEqual(ownAll(room), was) || !reflect.DeepEqual(ownAll(l), ownAll(in())) {
			t.Errorf("%s has changed what was handed in", name)
		}
		for i := range room {
			if spare := room[i].Txn.Acl; spare[:len(spare)+1][len(spare)].ID != "spare" {
				t.Errorf("%s has written behind an ACL", name)
			}
			if spare := room[i].Txn.Subs; spare[:len(spare)+1][len(spare)].Path != "spare" {
				t.Errorf("%s has written behind Subs", name)
			}
			spoil(room[i : i+1 : i+1])
		}
		p.same()
		p.l.Sync()
		p.m.sync()
		p.open()
	}
}

// spoil writes into entries, into all that they hold, and into the spare room behind that.
func spoil(l []api.Entry) {
	l = l[:cap(l)]
	for i := range l {
		spoilTxn(&l[i].Txn)
		l[i].Zxid = -99
	}
}

func spoilTxn(t *api.Txn) {
	t.Path, t.Number = "spoilt", -99
	for i := range t.Acl[:cap(t.Acl)] {
		t.Acl[:cap(t.Acl)][i] = api.Acl{Perms: -99, ID: "spoilt"}
	}
	for i := range t.Subs[:cap(t.Subs)] {
		spoilTxn(&t.Subs[:cap(t.Subs)][i])
	}
}

// TestGivesNew: what came out may be changed; no other answer is.
func TestGivesNew(t *testing.T) {
	p := newPair(t, 300)
	p.install(5, "s", rich(6), rich(7), rich(8))
	p.append(rich(epoch + 1))
	p.append(rich(2*epoch + 1))
	want := p.m.above(5)
	first, _ := p.l.Entries(5)
	second, _ := p.l.Entries(5)
	third, _ := p.l.Entries(7)
	marks, again := p.l.Marks(), p.l.Marks()
	for i := range first {
		spoil(first[i : i+1 : i+1])
		if !reflect.DeepEqual(ownAll(first[i+1:]), want[i+1:]) {
			t.Errorf("what is spoilt up to the entry %d is seen behind it", i)
		}
	}
	spoil(first)
	for i := range marks[:cap(marks)] {
		marks[:cap(marks)][i] = -99
	}
	if !reflect.DeepEqual(ownAll(second), want) || !reflect.DeepEqual(ownAll(third), want[2:]) {
		t.Errorf("what came out is spoilt: %s", brief(second))
	}
	if !slices.Equal(again, []int{8, epoch + 1, 2*epoch + 1}) {
		t.Errorf("Marks: %v", again)
	}
	p.same()
	p.compact(7, "t")
	p.open()
}

// TestGivesNewParts: the lists of one entry share nothing, nor does the room behind them.
func TestGivesNewParts(t *testing.T) {
	p := newPair(t, 300)
	p.append(rich(6))
	p.append(rich(7))
	for i := range 2 {
		for k := range rich(6).Txn.Subs {
			got, _ := p.l.Entries(0)
			want := p.m.above(0)
			spoilTxn(&got[i].Txn.Subs[k])
			spoilTxn(&want[i].Txn.Subs[k])
			if !reflect.DeepEqual(ownAll(got), ownAll(want)) {
				t.Errorf("the entry %d, the Sub %d: %s", i, k, brief(got))
			}
		}
		got, _ := p.l.Entries(0)
		want := p.m.above(0)
		for n := range got[i].Txn.Acl[:cap(got[i].Txn.Acl)] {
			got[i].Txn.Acl[:cap(got[i].Txn.Acl)][n] = api.Acl{ID: "spoilt"}
		}
		for n := range want[i].Txn.Acl {
			want[i].Txn.Acl[n] = api.Acl{ID: "spoilt"}
		}
		if !reflect.DeepEqual(ownAll(got), ownAll(want)) {
			t.Errorf("the entry %d, its ACL: %s", i, brief(got))
		}
	}
}

// TestApart: ledgers of different disks know nothing of one another.
func TestApart(t *testing.T) {
	p, q := newPair(t, 40), newPair(t, 50)
	p.append(at(1))
	q.append(rich(2))
	p.accept(1)
	q.accept(7)
	q.install(3, "q", at(4))
	p.arm(1)
	p.sync()
	q.same()
	q.adopt(7)
	p.crash()
	p.open()
	q.open()
	if p.l.Last() != 0 || q.l.Last() != 4 {
		t.Errorf("%d, %d", p.l.Last(), q.l.Last())
	}
}

// TestLongTexts: bytes of all kinds come back as they were.
func TestLongTexts(t *testing.T) {
	b := make([]byte, 65536)
	for i := range b {
		b[i] = byte(i * i >> 3)
	}
	p := newPair(t, large)
	p.install(1, string(b))
	for i, s := range []string{string(b[:3900]), strings.Repeat("\x00", 300), "ä€\xff"} {
		p.append(api.Entry{Zxid: 2 + i, Txn: api.Txn{Data: s, Acl: []api.Acl{{ID: s[:min(len(s), 20)]}}}})
	}
	p.sync()
	p.open()
	if p.l.Snapshot() != string(b) || p.l.Last() != 4 {
		t.Errorf("%s", brief(stateOf(p.l)))
	}
}
