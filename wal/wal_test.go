package wal_test

import (
	"math"
	"math/rand"
	"slices"
	"strings"
	"testing"

	"arboretum/api"
	"arboretum/wal"
)

// sizes of disks: with a sector of no area and without, the smallest ones and others.
var sizes = []int{16, 17, 18, 19, 33, 64}

func TestExamples(t *testing.T) {
	p := newPair(t, 18)
	p.append("ab")
	s, _ := p.d.Read(2)
	if s != "\x00\x02ab"+s[4:8]+zeros(56) || p.d.Acts() != 4 {
		t.Errorf("the sector 2: %q, %d acts", s, p.d.Acts())
	}
	if p.l.Len() != 1 || p.l.Synced() != 0 || p.l.Room() != 498 {
		t.Errorf("%d, %d, %d", p.l.Len(), p.l.Synced(), p.l.Room())
	}
	p.sync()
	p.sync()
	want := marked{count: 2, length: 8, number: 1}.sector()
	if s, _ := p.d.Read(0); s != want || p.d.Acts() != 7 {
		t.Errorf("the sector 0: %q, %d acts", s, p.d.Acts())
	}
	told(t, "Append of 4001 bytes", p.l.Append(xs(4001)), api.ErrWalLong)
	told(t, "Append of 499 bytes", p.l.Append(xs(499)), api.ErrWalFull)
	told(t, "Cut(2)", p.l.Cut(2), api.ErrWalNone)
	p.append("c")
	p.arm(1)
	p.sync()
	p.crash()
	p.open()
	holds(t, p.l, "ab")
	for _, fate := range []int{2 + 3*30, 1} {
		p.arm(1)
		p.mark(3, 4)
		p.crash(fate)
		p.open()
	}
	if a, b := p.l.Marks(); a != 3 || b != 4 {
		t.Errorf("Marks: %d, %d", a, b)
	}
}

// holds tells whether these are a log's records.
func holds(t *testing.T, l *wal.Log, want ...string) {
	t.Helper()
	if got, e := l.Records(); !slices.Equal(got, want) || e != api.OK {
		t.Errorf("Records: %q, %d, want %q", got, e, want)
	}
}

func TestA1Format(t *testing.T) {
	for _, n := range append(sizes, 32768) {
		p := newPair(t, n)
		holds(t, p.l)
		if p.d.Acts() != 3 || len(p.d.Pending()) != 0 || p.l.Room() != min(4000, 64*half(n)-6) {
			t.Errorf("of %d sectors: %d acts, pending %v, Room %d", n, p.d.Acts(), p.d.Pending(), p.l.Room())
		}
		p.open()
	}
}

func TestA1FormatOverWhatWasThere(t *testing.T) {
	p := newPair(t, 20)
	for range 3 {
		p.append("old")
		p.mark(7, 8)
		p.renew("older", "oldest")
	}
	p.append("unsynced")
	p.format()
	holds(t, p.l)
	p.open()
	holds(t, p.l)
	p.append("new")
	p.sync()
	p.open()
	holds(t, p.l, "new")
	p = crafted(t, 20, map[int]string{0: xs(64), 1: xs(64), 2: xs(64), 19: xs(64)})
	p.format()
	p.open()
}

func TestA1FormatOfNoDisk(t *testing.T) {
	if l, e := wal.Format(nil); l != nil || e != api.ErrArg {
		t.Errorf("%v, %d", l, e)
	}
}

func TestA1FormatDies(t *testing.T) {
	for n := 1; n <= 4; n++ {
		p := crafted(t, 16, nil)
		p.arm(n)
		p.format()
		if p.d.Dead() != (n <= 3) {
			t.Errorf("armed at %d: dead %t", n, p.d.Dead())
		}
		if n <= 3 {
			acts := p.d.Acts()
			p.format()
			if p.d.Acts() != acts {
				t.Errorf("a dead disk did %d acts", p.d.Acts()-acts)
			}
		}
		p.crash(1, 1)
		p.open2()
	}
}

// open2 opens, be there a log or none.
func (p *pair) open2() {
	p.t.Helper()
	l, e := wal.Open(p.d)
	m, want := openModel(p.m.d)
	if e != want || (l == nil) != (want != api.OK) {
		p.t.Errorf("Open: %v, %d, want %d", l, e, want)
	}
	p.sameDisk()
	if l != nil && m != nil {
		p.l, p.m = l, m
		p.same()
	}
}

func TestA2OpenOfNoDisk(t *testing.T) {
	if l, e := wal.Open(nil); l != nil || e != api.ErrArg {
		t.Errorf("%v, %d", l, e)
	}
}

func TestA2OpenOfADeadDisk(t *testing.T) {
	for _, with := range []bool{false, true} {
		p := crafted(t, 16, nil)
		if with {
			p.format()
		}
		p.arm(1)
		told(t, "disk's Sync", p.d.Sync(), p.m.d.Sync())
		for range 2 {
			if l, e := wal.Open(p.d); l != nil || e != api.ErrDead {
				t.Errorf("with a log %t: %v, %d", with, l, e)
			}
		}
	}
}

func TestA2OpenOfNoLog(t *testing.T) {
	for _, n := range append(sizes, 32768) {
		crafted(t, n, nil).open2()
		crafted(t, n, map[int]string{0: xs(64), 1: xs(64)}).open2()
	}
}

func TestA2OpenDoesNoAct(t *testing.T) {
	p := newPair(t, 30)
	p.append("a")
	p.sync()
	p.append("b")
	acts, pending := p.d.Acts(), p.d.Pending()
	p.open()
	holds(t, p.l, "a")
	if p.d.Acts() != acts || !slices.Equal(p.d.Pending(), pending) {
		t.Errorf("%d acts, pending %v", p.d.Acts()-acts, p.d.Pending())
	}
}

// three are records, laid, and the mark of these in the area 0.
var (
	three  = recordOf("ab") + recordOf("") + recordOf(xs(60))
	first3 = three[:64]
	rest3  = three[64:] + zeros(128-len(three))
)

func markOf3(count uint32, area byte) marked {
	return marked{count: count, area: area, length: uint32(len(three)), number: 3, a: 5, b: 6}
}

func TestA2OpenFinds(t *testing.T) {
	for _, count := range []uint32{1, 2, 3, 255, 256, 65535, 1 << 16, 1<<24 - 1, 1 << 24, 1<<31 - 1, 1 << 31, greatest - 1, greatest} {
		for area := range 2 {
			at := 2 + area*half(20)
			p := crafted(t, 20, map[int]string{
				int(count % 2): markOf3(count, byte(area)).sector(), at: first3, at + 1: rest3,
			})
			p.open()
			holds(t, p.l, "ab", "", xs(60))
			if a, b := p.l.Marks(); a != 5 || b != 6 || p.l.Synced() != 3 {
				t.Errorf("Marks %d, %d, Synced %d", a, b, p.l.Synced())
			}
		}
	}
}

// TestA2Marks: of each mark that is changed a little, or not right for another reason, with no other one and with an older one.
func TestA2Marks(t *testing.T) {
	right := markOf3(3, 0)
	all := []string{}
	for i := range 64 {
		for _, by := range []byte{1, 2, 128, 255} {
			b := []byte(right.sector())
			b[i] ^= by
			all = append(all, string(b))
		}
	}
	for _, change := range []func(m *marked){
		func(m *marked) { m.count = 0 },
		func(m *marked) { m.count = 4 },
		func(m *marked) { m.count = 1 },
		func(m *marked) { m.count = greatest },
		func(m *marked) { m.area = 1 },
		func(m *marked) { m.area = 2 },
		func(m *marked) { m.area = 255 },
		func(m *marked) { m.length = 0 },
		func(m *marked) { m.length, m.number = 0, 0 },
		func(m *marked) { m.number = 0 },
		func(m *marked) { m.number = 2 },
		func(m *marked) { m.number = 4 },
		func(m *marked) { m.number = greatest },
		func(m *marked) { m.length, m.number = uint32(len(recordOf("ab"))), 1 },
		func(m *marked) { m.length-- },
		func(m *marked) { m.length++ },
		func(m *marked) { m.length = 64 * 9 },
		func(m *marked) { m.length = 64*9 + 1 },
		func(m *marked) { m.length = greatest },
		func(m *marked) { m.a, m.b = 1<<63-1, 0 },
		func(m *marked) { m.a, m.b = 0, 1<<63-1 },
		func(m *marked) { m.a = 1 << 63 },
		func(m *marked) { m.b = 1 << 63 },
		func(m *marked) { m.a, m.b = math.MaxUint64, math.MaxUint64 },
	} {
		m := right
		change(&m)
		all = append(all, m.sector())
	}
	older := marked{count: 2, a: 9, b: 1}.sector()
	for _, s := range all {
		for _, other := range []string{zeros(64), older, s} {
			p := crafted(t, 20, map[int]string{0: other, 1: s, 2: first3, 3: rest3})
			p.open2()
			p = crafted(t, 20, map[int]string{0: s, 1: other, 2: first3, 3: rest3})
			p.open2()
		}
	}
}

func TestA2TheGreaterCountCounts(t *testing.T) {
	for _, c := range [][2]uint32{{2, 1}, {2, 3}, {256, 255}, {256, 257}, {1 << 31, 1<<31 - 1}, {1 << 31, 1<<31 + 1}, {greatest - 1, greatest}, {2, greatest}, {greatest - 1, 1}} {
		p := crafted(t, 20, map[int]string{
			0: marked{count: c[0], a: 10}.sector(), 1: marked{count: c[1], a: 11}.sector(),
		})
		p.open()
		want := 10
		if c[1] > c[0] {
			want = 11
		}
		if a, _ := p.l.Marks(); a != want {
			t.Errorf("of %d and %d: the one with %d", c[0], c[1], a)
		}
	}
}

// TestA2NoOlderOne: where the mark that counts leads to what is no record, the other mark is of no use.
func TestA2NoOlderOne(t *testing.T) {
	p := crafted(t, 20, map[int]string{
		0: marked{count: 2}.sector(), 1: marked{count: 3, length: 8, number: 1}.sector(), 2: xs(64),
	})
	if l, e := wal.Open(p.d); l != nil || e != api.ErrWalForm {
		t.Errorf("%v, %d", l, e)
	}
}

func TestA2Records(t *testing.T) {
	for i := range three {
		for _, by := range []byte{1, 2, 64, 128, 255} {
			b := []byte(three)
			b[i] ^= by
			s := string(b) + zeros(128-len(b))
			p := crafted(t, 20, map[int]string{1: markOf3(3, 0).sector(), 2: s[:64], 3: s[64:]})
			p.open2()
			if l, e := wal.Open(p.d); l != nil || e != api.ErrWalForm {
				t.Errorf("the byte %d changed by %d: %v, %d", i, by, l, e)
			}
		}
	}
	s := three + xs(128-len(three))
	p := crafted(t, 20, map[int]string{1: markOf3(3, 0).sector(), 2: s[:64], 3: s[64:]})
	p.open()
	holds(t, p.l, "ab", "", xs(60))
}

// laidOut is a disk with a text in the area 0, and the mark of the count 1 for it.
func laidOut(t *testing.T, size int, s string, number int) *pair {
	t.Helper()
	sectors := map[int]string{1: marked{count: 1, length: uint32(len(s)), number: uint32(number)}.sector()}
	for n := 2; s != ""; n++ {
		part := s[:min(64, len(s))]
		sectors[n] = part + zeros(64-len(part))
		s = s[len(part):]
	}
	return crafted(t, size, sectors)
}

func TestA2LongRecords(t *testing.T) {
	for _, n := range []int{3999, 4000} {
		p := laidOut(t, 200, recordOf("a")+recordOf(xs(n)), 2)
		p.open()
		holds(t, p.l, "a", xs(n))
	}
	for _, n := range []int{4001, 4002, 5000, 6000} {
		p := laidOut(t, 200, recordOf("a")+recordOf(xs(n)), 2)
		if l, e := wal.Open(p.d); l != nil || e != api.ErrWalForm {
			t.Errorf("of %d bytes: %v, %d", n, l, e)
		}
	}
}

func TestA2NumberAndLength(t *testing.T) {
	for _, n := range []int{0, 1, 2, 3, 4, 5, 1000, greatest} {
		p := laidOut(t, 16, recordsOf([]string{"a", "", "bc"}), n)
		p.open2()
		if l, e := wal.Open(p.d); (l != nil) != (n == 3) || (e == api.OK) != (n == 3) {
			t.Errorf("the number %d: %v, %d", n, l, e)
		}
	}
	all := recordsOf([]string{"a", "", "bc"})
	for n := range len(all) + 1 {
		for number := range 5 {
			laidOut(t, 16, all[:n], number).open2()
		}
	}
	// The area to its last byte, and the sum of its last record beyond that.
	full := recordsOf([]string{xs(200), xs(64*7 - 206 - 6)})
	laidOut(t, 16, full, 2).open()
	p := crafted(t, 16, map[int]string{1: marked{count: 1, length: 64 * 7, number: 1}.sector(), 2: "\x0f" + zeros(63)})
	p.open2()
}

func TestA3Append(t *testing.T) {
	for _, n := range sizes {
		p := newPair(t, n)
		for _, s := range []string{"ab", "", xs(50), xs(56), "\x00", zeros(58), xs(1), xs(200), "\xff\xfe"} {
			p.append(s)
		}
		p.sync()
		p.open()
	}
}

// TestA3Sectors: each length, from each place in a sector, writes just the sectors that have a byte of it.
func TestA3Sectors(t *testing.T) {
	for _, ahead := range []int{0, 1, 50, 51, 52, 56, 57, 58, 59, 60, 63, 64, 114, 122} {
		for _, n := range []int{0, 1, 2, 3, 51, 52, 53, 57, 58, 59, 64, 65, 122, 123, 186, 187} {
			p := newPair(t, 40)
			p.append(xs(ahead))
			p.sync()
			p.append(strings.Repeat("y", n))
			from, to := ahead+6, ahead+6+n+6
			if want := (to-1)/64 - from/64 + 1; len(p.d.Pending()) != want {
				t.Errorf("%d bytes behind %d: pending %v", n, from, p.d.Pending())
			}
		}
	}
}

// TestA3Rising: the acts are counted at which a disk dies: what is written by then are the first sectors.
func TestA3Rising(t *testing.T) {
	for n := 1; n <= 5; n++ {
		p := newPair(t, 40)
		p.append(xs(30))
		p.sync()
		p.arm(n)
		p.append(xs(250))
		p.crash(1, 1, 1, 1, 1)
		p.open()
		p.sameDisk()
	}
}

// TestA3ZerosBehind: what an area had behind a record is zeros in its last sector, and as it was behind that.
func TestA3ZerosBehind(t *testing.T) {
	p := newPair(t, 40)
	p.append(xs(300))
	p.sync()
	p.cut(0)
	p.append("abc")
	s, _ := p.d.Read(2)
	behind, _ := p.d.Read(3)
	if s != recordOf("abc")+zeros(55) || behind != xs(64) {
		t.Errorf("%q, %q", s, behind)
	}
	p.append("d")
	p.sync()
	p.open()
}

func TestA3Long(t *testing.T) {
	for _, size := range []int{16, 200} {
		p := newPair(t, size)
		acts := p.d.Acts()
		for _, n := range []int{4001, 4002, 10000, 65536, 65537, 1 << 20} {
			told(t, "Append", p.l.Append(xs(n)), api.ErrWalLong)
		}
		p.same()
		if p.d.Acts() != acts {
			t.Errorf("%d acts", p.d.Acts()-acts)
		}
	}
	p := newPair(t, 200)
	p.append(xs(4000))
	p.sync()
	p.open()
}

func TestA3Full(t *testing.T) {
	for _, n := range sizes {
		p := newPair(t, n)
		space := 64 * half(n)
		p.append(xs(space - 5))
		p.append(xs(space - 6))
		p.append("")
		p.cut(0)
		p.append(xs(space - 12))
		if p.l.Room() != 0 {
			t.Errorf("Room: %d", p.l.Room())
		}
		p.append("x")
		p.append("")
		p.append("")
		p.sync()
		p.append("")
		p.open()
	}
}

func TestA4Sync(t *testing.T) {
	p := newPair(t, 30)
	acts := p.d.Acts()
	for range 3 {
		p.sync()
	}
	if p.d.Acts() != acts {
		t.Errorf("nothing to sync: %d acts", p.d.Acts()-acts)
	}
	for n := range 5 {
		for range n + 1 {
			p.append(xs(n * 10))
		}
		p.sync()
		if p.l.Synced() != p.l.Len() || len(p.d.Pending()) != 0 {
			t.Errorf("Synced %d of %d, pending %v", p.l.Synced(), p.l.Len(), p.d.Pending())
		}
		p.sync()
	}
	p.open()
	p.sync()
}

func TestA4OfNothingToSyncOnADeadDisk(t *testing.T) {
	p := newPair(t, 30)
	p.append("a")
	p.sync()
	p.arm(1)
	told(t, "disk's Sync", p.d.Sync(), p.m.d.Sync())
	p.sync()
	told(t, "Append", p.l.Append(xs(4001)), api.ErrWalLong)
	told(t, "Cut", p.l.Cut(2), api.ErrWalNone)
	told(t, "Mark", p.l.Mark(0, -1), api.ErrArg)
	told(t, "Renew", p.l.Renew([]string{xs(4000)}), api.ErrWalFull)
	holds(t, p.l, "a")
	// It has answered no ErrDead: once the disk lives again it goes on.
	p.crash()
	p.append("b")
	p.sync()
	p.open()
	holds(t, p.l, "a", "b")
}

func TestA5Cut(t *testing.T) {
	records := []string{"ab", "", xs(60), "c", xs(100), ""}
	for synced := range len(records) + 1 {
		for n := range len(records) + 1 {
			p := newPair(t, 30)
			for k, s := range records {
				if k == synced {
					p.sync()
				}
				p.append(s)
			}
			acts := p.d.Acts()
			p.cut(n)
			if p.d.Acts() != acts+3 || p.l.Synced() != n || p.l.Len() != n {
				t.Errorf("Cut(%d): %d acts, Synced %d, Len %d", n, p.d.Acts()-acts, p.l.Synced(), p.l.Len())
			}
			p.sync()
			p.append("behind")
			p.append(xs(70))
			p.open()
			p.append("again")
			p.sync()
			p.open()
		}
	}
}

func TestA5CutOfAllThatIsSynced(t *testing.T) {
	p := newPair(t, 30)
	for range 3 {
		acts := p.d.Acts()
		p.cut(0)
		if p.d.Acts() != acts+3 {
			t.Errorf("%d acts", p.d.Acts()-acts)
		}
	}
	p.append("a")
	p.sync()
	p.cut(1)
	holds(t, p.l, "a")
}

func TestA5None(t *testing.T) {
	p := newPair(t, 30)
	p.append("a")
	p.append("b")
	acts := p.d.Acts()
	for _, n := range []int{-1, -2, 3, 4, 1 << 32, math.MinInt, math.MaxInt} {
		p.cut(n)
		told(t, "Cut", p.l.Cut(n), api.ErrWalNone)
	}
	if p.d.Acts() != acts || p.l.Synced() != 0 {
		t.Errorf("%d acts, Synced %d", p.d.Acts()-acts, p.l.Synced())
	}
}

func TestA6Renew(t *testing.T) {
	lists := [][]string{nil, {""}, {"p", "", "qr"}, {xs(57)}, {xs(58)}, {xs(59)}, {xs(58), xs(58)}, {xs(300)}, slices.Repeat([]string{"a"}, 60), {}}
	for _, n := range sizes {
		p := newPair(t, n)
		for _, l := range append(lists, lists...) {
			p.append("ahead")
			p.append(xs(100))
			p.renew(l...)
			if p.l.Synced() != p.l.Len() {
				t.Errorf("Synced %d of %d", p.l.Synced(), p.l.Len())
			}
			p.sync()
			p.open()
			p.append("behind")
			p.sync()
			p.open()
		}
	}
}

// TestA6OldOnesStay: the records that were there stay where they are till the mark is written.
func TestA6OldOnesStay(t *testing.T) {
	p := newPair(t, 30)
	p.append("old")
	p.sync()
	for n := 1; n <= 6; n++ {
		p.arm(n)
		p.renew(xs(100), xs(50))
		if !p.d.Dead() {
			t.Errorf("alive behind %d acts", n)
		}
		p.crash()
		p.open()
		holds(t, p.l, "old")
	}
	p.arm(7)
	p.renew(xs(100), xs(50))
	p.arm(0)
	p.open()
	holds(t, p.l, xs(100), xs(50))
}

func TestA6LongAndFull(t *testing.T) {
	p := newPair(t, 16)
	p.append("a")
	p.sync()
	acts := p.d.Acts()
	full := 64*7 - 6
	for _, l := range [][]string{
		{xs(4001)}, {"a", xs(4001), "b"}, {xs(4000), xs(4001)}, {xs(full + 1), xs(1 << 20)}, append(slices.Repeat([]string{""}, 100), xs(4001)),
	} {
		p.renew(l...)
		told(t, "Renew", p.l.Renew(l), api.ErrWalLong)
	}
	for _, l := range [][]string{
		{xs(full + 1)}, {xs(full), ""}, {"", xs(full - 5)}, {xs(4000)}, slices.Repeat([]string{""}, 75), slices.Repeat([]string{xs(4000)}, 100),
	} {
		p.renew(l...)
		told(t, "Renew", p.l.Renew(l), api.ErrWalFull)
	}
	if p.d.Acts() != acts {
		t.Errorf("%d acts", p.d.Acts()-acts)
	}
	for _, l := range [][]string{{xs(full)}, {"", xs(full - 6)}, slices.Repeat([]string{""}, 74), nil} {
		p.renew(l...)
		p.open()
		holds(t, p.l, l...)
	}
	p = newPair(t, 200)
	p.renew(xs(4000), xs(2000))
	p.open()
}

func TestA7Mark(t *testing.T) {
	numbers := []int{0, 1, 2, 255, 256, 1 << 31, 1<<32 - 1, 1 << 32, 1<<62 + 3, math.MaxInt}
	p := newPair(t, 30)
	for _, a := range numbers {
		for _, b := range numbers {
			acts := p.d.Acts()
			p.mark(a, b)
			if p.d.Acts() != acts+2 || len(p.d.Pending()) != 0 {
				t.Errorf("%d acts, pending %v", p.d.Acts()-acts, p.d.Pending())
			}
			p.open()
			if x, y := p.l.Marks(); x != a || y != b {
				t.Errorf("Marks: %d, %d, want %d, %d", x, y, a, b)
			}
		}
	}
	acts := p.d.Acts()
	for _, n := range []int{-1, -2, math.MinInt} {
		for _, l := range [][2]int{{n, 0}, {0, n}, {n, n}, {n, math.MaxInt}} {
			p.mark(l[0], l[1])
			told(t, "Mark", p.l.Mark(l[0], l[1]), api.ErrArg)
		}
	}
	if p.d.Acts() != acts {
		t.Errorf("%d acts", p.d.Acts()-acts)
	}
}

func TestA7MarkAndWhatIsNotSynced(t *testing.T) {
	p := newPair(t, 30)
	p.append("a")
	p.sync()
	p.append("b")
	p.mark(1, 2)
	if p.l.Len() != 2 || p.l.Synced() != 1 {
		t.Errorf("Len %d, Synced %d", p.l.Len(), p.l.Synced())
	}
	old := p.l
	p.open()
	holds(t, p.l, "a")
	p.l = old
	told(t, "Sync", old.Sync(), api.OK)
	l, e := wal.Open(p.d)
	told(t, "Open", e, api.OK)
	holds(t, l, "a", "b")
	if a, b := l.Marks(); a != 1 || b != 2 {
		t.Errorf("Marks: %d, %d", a, b)
	}
}

// TestA7NumbersStay: the calls that lay a mark for the records' sake lay the numbers again.
func TestA7NumbersStay(t *testing.T) {
	for _, call := range []func(p *pair){
		func(p *pair) { p.append("x"); p.sync() },
		func(p *pair) { p.cut(0) },
		func(p *pair) { p.renew("x", "y") },
	} {
		p := newPair(t, 30)
		p.mark(8, 9)
		call(p)
		p.open()
		if a, b := p.l.Marks(); a != 8 || b != 9 {
			t.Errorf("Marks: %d, %d", a, b)
		}
	}
}

func TestA8Room(t *testing.T) {
	p := newPair(t, 200)
	space := 64 * half(200)
	for p.l.Room() == 4000 {
		p.append(xs(1000))
		if want := min(4000, space-p.l.Len()*1006-6); p.l.Room() != want {
			t.Errorf("Room: %d, want %d", p.l.Room(), want)
		}
	}
	for p.l.Room() > 0 {
		room := p.l.Room()
		told(t, "one byte too many", p.l.Append(xs(room+1)), api.ErrWalFull)
		p.append(xs((room + 1) / 2))
	}
	for p.l.Room() == 0 {
		p.append("")
	}
	told(t, "no byte", p.l.Append(""), api.ErrWalFull)
	p.sync()
	p.open()
	p.cut(0)
	if p.l.Room() != 4000 {
		t.Errorf("Room: %d", p.l.Room())
	}
}

// TestA8RoomOfAllThatIsLeft: from the last bytes of an area on.
func TestA8RoomOfAllThatIsLeft(t *testing.T) {
	space := 64 * half(16)
	for left := range 14 {
		p := newPair(t, 16)
		p.append(xs(space - 6 - left))
		if want := max(-1, left-6); p.l.Room() != want {
			t.Errorf("of %d bytes: Room %d", left, p.l.Room())
		}
		p.append(xs(left))
		p.append(xs(max(0, left-6)))
		p.append("")
	}
}

func TestCountAtItsEnd(t *testing.T) {
	last := marked{count: greatest, length: 7, number: 1, a: 3, b: 4}.sector()
	p := crafted(t, 20, map[int]string{1: last, 2: recordOf("r") + zeros(57)})
	p.open()
	acts := p.d.Acts()
	p.sync()
	told(t, "Cut", p.l.Cut(1), api.ErrWalFull)
	told(t, "Cut of none", p.l.Cut(2), api.ErrWalNone)
	told(t, "Renew", p.l.Renew(nil), api.ErrWalFull)
	told(t, "Renew of a long one", p.l.Renew([]string{xs(4001)}), api.ErrWalLong)
	told(t, "Mark", p.l.Mark(1, 1), api.ErrWalFull)
	told(t, "Mark below 0", p.l.Mark(-1, 1), api.ErrArg)
	p.append("s")
	told(t, "Sync", p.l.Sync(), api.ErrWalFull)
	p.same()
	if p.d.Acts() != acts+1 || p.l.Len() != 2 || p.l.Synced() != 1 {
		t.Errorf("%d acts, Len %d, Synced %d", p.d.Acts()-acts, p.l.Len(), p.l.Synced())
	}
	for _, call := range []func(p *pair){
		func(p *pair) { p.append("s"); p.sync() },
		func(p *pair) { p.cut(0) },
		func(p *pair) { p.renew("s") },
		func(p *pair) { p.mark(5, 5) },
	} {
		ahead := marked{count: greatest - 1, length: 7, number: 1}.sector()
		p := crafted(t, 20, map[int]string{0: ahead, 2: recordOf("r") + zeros(57)})
		p.open()
		call(p)
		p.mark(1, 1)
		told(t, "Mark", p.l.Mark(1, 1), api.ErrWalFull)
		p.open()
	}
}

func TestAreasOfALargeDisk(t *testing.T) {
	p := newPair(t, 32768)
	space := 64 * half(32768)
	for p.l.Room() == 4000 {
		told(t, "Append", p.l.Append(xs(4000)), p.m.append(xs(4000)))
	}
	if n := p.l.Len(); p.l.Room() != space-n*4006-6 {
		t.Errorf("Room: %d behind %d records", p.l.Room(), n)
	}
	p.append(xs(p.l.Room()))
	p.sync()
	p.open()
	records, _ := p.l.Records()
	p.renew(records...)
	p.open()
	holds(t, p.l, records...)
}

// TestManyRecords: so many that what costs more with each of them would be seen.
func TestManyRecords(t *testing.T) {
	d := made(t, 32768)
	l, e := wal.Format(d)
	told(t, "Format", e, api.OK)
	n := 64 * half(32768) / 6
	for range n {
		if e := l.Append(""); e != api.OK {
			t.Fatalf("Append: %d", e)
		}
	}
	told(t, "Append", l.Append(""), api.ErrWalFull)
	told(t, "Sync", l.Sync(), api.OK)
	l, e = wal.Open(d)
	if e != api.OK || l.Len() != n || l.Synced() != n {
		t.Fatalf("Open: %d", e)
	}
	told(t, "Renew", l.Renew(slices.Repeat([]string{""}, n)), api.OK)
	told(t, "Renew of one more", l.Renew(slices.Repeat([]string{""}, n+1)), api.ErrWalFull)
}

func TestR3Memory(t *testing.T) {
	p := newPair(t, 30)
	handed := []string{"a", "b", "c", "d"}
	told(t, "Renew", p.l.Renew(handed[:2]), api.OK)
	told(t, "Append", p.l.Append("x"), api.OK)
	told(t, "Cut", p.l.Cut(1), api.OK)
	told(t, "Append", p.l.Append("y"), api.OK)
	if !slices.Equal(handed, []string{"a", "b", "c", "d"}) {
		t.Errorf("what was handed in: %q", handed)
	}
	handed[0] = "changed"
	holds(t, p.l, "a", "y")
	one, _ := p.l.Records()
	two, _ := p.l.Records()
	one[0] = "changed"
	_ = append(one[:1], "changed")
	_ = append(two, "changed")
	told(t, "Append", p.l.Append("z"), api.OK)
	holds(t, p.l, "a", "y", "z")
	if !slices.Equal(two, []string{"a", "y"}) {
		t.Errorf("another answer: %q", two)
	}
	told(t, "Sync", p.l.Sync(), api.OK)
	l, _ := wal.Open(p.d)
	one, _ = l.Records()
	one[0] = "changed"
	holds(t, l, "a", "y", "z")
}

// TestR4 makes the same calls to one log alone and to one beside which another one lives.
func TestR4(t *testing.T) {
	one, two, other := newPair(t, 30), newPair(t, 30), newPair(t, 30)
	random, same, another := rand.New(rand.NewSource(1)), rand.New(rand.NewSource(1)), rand.New(rand.NewSource(2))
	for range 300 {
		step(one, random)
	}
	for range 300 {
		step(two, same)
		step(other, another)
	}
	for n := range 30 {
		x, _ := one.d.Read(n)
		if y, _ := two.d.Read(n); x != y {
			t.Errorf("the sector %d: %q, %q", n, x, y)
		}
	}
}
