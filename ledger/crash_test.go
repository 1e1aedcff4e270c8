package ledger_test

import (
	"math"
	"math/rand"
	"slices"
	"testing"

	"arboretum/api"
	"arboretum/ledger"
)

// calls are those that act, and whether what they do lasts at once, and all entries with it.
var calls = []struct {
	name       string
	lasts, all bool
	do         func(p *pair)
}{
	{"Append", false, false, func(p *pair) { p.append(at(p.m.last() + 1)) }},
	{"a long Append", false, false, func(p *pair) { p.append(sized(p.m.last()+1, 300)) }},
	{"Sync", true, true, func(p *pair) { p.sync() }},
	{"Accept", true, false, func(p *pair) { p.accept(p.m.accepted + 7) }},
	{"Adopt", true, true, func(p *pair) { p.adopt(p.m.accepted) }},
	{"Adopt of the same", true, true, func(p *pair) { p.adopt(p.m.current) }},
	{"Cut of all", true, true, func(p *pair) { p.cut(p.m.base) }},
	{"Cut of one", true, true, func(p *pair) { p.cut(p.middle()) }},
	{"Cut of none", true, true, func(p *pair) { p.cut(p.m.last()) }},
	{"Install", true, true, func(p *pair) { p.install(3, xs(100), rich(4), at(8)) }},
	{"Install of a long one", true, true, func(p *pair) { p.install(2*epoch, xs(4100), sized(2*epoch+1, 200)) }},
	{"Install of nothing", true, true, func(p *pair) { p.install(0, "") }},
	{"Compact to the base", true, true, func(p *pair) { p.compact(p.m.base, xs(50)) }},
	{"Compact to the middle", true, true, func(p *pair) { p.compact(p.middle(), "middle") }},
	{"Compact to the end", true, true, func(p *pair) { p.compact(p.m.last(), "") }},
}

// middle is the zxid of the last entry but one, or the base.
func (p *pair) middle() int {
	if n := len(p.m.entries); n > 1 {
		return p.m.entries[n-2].Zxid
	}
	return p.m.base
}

// beginnings are ledgers as calls may leave them.
var beginnings = []struct {
	name string
	do   func(p *pair)
}{
	{"a new one", func(p *pair) {}},
	{"entries", func(p *pair) { p.append(at(epoch + 1)); p.append(rich(epoch + 2)); p.sync() }},
	{"entries that are not synced", func(p *pair) {
		p.append(at(epoch + 1))
		p.sync()
		p.append(rich(epoch + 2))
		p.append(at(epoch + 3))
	}},
	{"only such", func(p *pair) { p.append(at(1)); p.append(at(2)) }},
	{"epochs", func(p *pair) { p.accept(9); p.append(at(1)); p.adopt(4); p.append(at(4 * epoch)) }},
	{"great epochs", func(p *pair) { p.accept(1 << 29); p.adopt(1<<29 - 1); p.append(at(4 * epoch)) }},
	{"installed", func(p *pair) { p.install(epoch, xs(200), at(epoch+1), rich(epoch+3)); p.append(at(epoch + 4)) }},
	{"compacted", func(p *pair) {
		p.append(at(1))
		p.append(rich(2))
		p.append(at(3))
		p.compact(2, "two")
		p.append(at(4))
	}},
	{"cut", func(p *pair) { p.append(rich(1)); p.append(rich(2)); p.append(rich(3)); p.cut(2); p.append(at(3)) }},
	{"crashed", func(p *pair) {
		p.accept(2)
		p.append(at(5))
		p.sync()
		p.arm(2)
		p.append(sized(6, 200))
		p.crash(2+3*20, 2+3*50)
		p.open()
		p.append(at(6))
	}},
	{"a torn mark", func(p *pair) {
		p.accept(2)
		p.append(at(5))
		p.arm(4)
		p.adopt(1)
		p.crash(2 + 3*40)
		p.open()
	}},
}

// begin makes a ledger as one of the beginnings is.
func begin(t *testing.T, do func(p *pair)) *pair {
	t.Helper()
	p := newPair(t, 160)
	p.quiet = true
	do(p)
	p.quiet = false
	p.same()
	return p
}

// fates are those that the first pending sector meets, which is the mark's if one was written.
func fates() []int {
	l := []int{0, 1, -1, -2}
	for _, b := range []int{1, 6, 15, 23, 31, 61, 64} {
		l = append(l, 2+3*b)
	}
	return l
}

func anyFates(random *rand.Rand) []int {
	l := make([]int, random.Intn(12))
	for i := range l {
		l[i] = random.Intn(400) - 200
	}
	return l
}

// lasting is what may be there behind a crash: what was synced; what would last behind the call, if that lasts at once; and, of an Adopt alone, all entries without the epoch, since its Sync comes first.
func lasting(name string, synced, all, behind state, lasts bool) []state {
	l := []state{synced}
	if lasts {
		l = append(l, behind)
	}
	if name == "Adopt" || name == "Adopt of the same" {
		l = append(l, all)
	}
	return l
}

// TestH8 lets the disk die at each act of each call, crash in many ways, and opens it again.
func TestH8(t *testing.T) {
	for _, from := range beginnings {
		t.Run(from.name, func(t *testing.T) {
			t.Parallel()
			random := rand.New(rand.NewSource(8))
			for _, call := range calls {
				after := begin(t, from.do)
				call.do(after)
				for n := 1; dies(t, random, from.do, call.name, call.lasts, call.do, n, after.m.synced()); n++ {
				}
			}
		})
	}
}

// dies lets the disk die at the n-th act of a call; false, if the call has not so many.
func dies(t *testing.T, random *rand.Rand, from func(p *pair), name string, lasts bool, do func(p *pair), n int, behind state) bool {
	t.Helper()
	for i, fate := range fates() {
		p := begin(t, from)
		synced, all := p.m.synced(), p.m.state()
		p.arm(n)
		do(p)
		if !p.d.Dead() {
			return false
		}
		if !stateOf(p.l).is(all) {
			t.Fatalf("%s, dead at the act %d: %s", name, n, brief(stateOf(p.l)))
		}
		if i == 0 {
			p.refuses()
		}
		p.crash(append([]int{fate}, anyFates(random)...)...)
		if i == 0 {
			p.refuses()
		}
		p.open()
		if !slices.ContainsFunc(lasting(name, synced, all, behind, lasts), stateOf(p.l).is) {
			t.Fatalf("%s, dead at the act %d, the fate %d: %s", name, n, fate, brief(stateOf(p.l)))
		}
		p.append(rich(p.m.last() + 1))
		p.sync()
		p.open()
	}
	return true
}

// TestH8Behind: a call that has answered OK is lasting (all but Append), however the disk crashes then.
func TestH8Behind(t *testing.T) {
	for _, from := range beginnings {
		for _, call := range calls {
			for _, how := range [][]int{nil, {1, 1, 1, 1, 1, 1}, {2, 5, 50, 8, 8}} {
				p := begin(t, from.do)
				call.do(p)
				want := p.m.synced()
				if call.all && !want.is(stateOf(p.l)) {
					t.Errorf("%s, %s: not all lasts", from.name, call.name)
				}
				p.crash(how...)
				p.open()
				if !stateOf(p.l).is(want) {
					t.Errorf("%s, %s: %s, want %s", from.name, call.name, brief(stateOf(p.l)), brief(want))
				}
			}
		}
	}
}

// refuses: of a ledger in doubt nothing more is taken, whatever else there is to say of a call, and it tells what it told.
func (p *pair) refuses() {
	p.t.Helper()
	acts, was := p.d.Acts(), stateOf(p.l)
	for _, epoch := range []int{p.m.accepted, p.m.accepted + 1, p.m.accepted - 1, 1<<30 + 1, -1} {
		told(p.t, "Accept in doubt", p.l.Accept(epoch), api.ErrDead)
	}
	for _, epoch := range []int{p.m.current, p.m.accepted, p.m.current - 1, p.m.accepted + 1, -1} {
		told(p.t, "Adopt in doubt", p.l.Adopt(epoch), api.ErrDead)
	}
	for _, e := range []api.Entry{at(p.m.last() + 1), at(p.m.last()), at(-1), deep(p.m.last() + 1), sized(p.m.last()+1, 4001)} {
		told(p.t, "Append in doubt", p.l.Append(e), api.ErrDead)
	}
	told(p.t, "Sync in doubt", p.l.Sync(), api.ErrDead)
	for _, zxid := range []int{p.m.base, p.m.last(), p.m.base - 1, math.MaxInt} {
		told(p.t, "Cut in doubt", p.l.Cut(zxid), api.ErrDead)
		told(p.t, "Compact in doubt", p.l.Compact(zxid, "s"), api.ErrDead)
		told(p.t, "a long Compact in doubt", p.l.Compact(zxid, xs(65537)), api.ErrDead)
	}
	told(p.t, "Install in doubt", p.l.Install(9, "s", ats(10)), api.ErrDead)
	told(p.t, "Install in doubt", p.l.Install(-1, xs(65537), []api.Entry{deep(1)}), api.ErrDead)
	told(p.t, "Install in doubt", p.l.Install(9, "", ats(9)), api.ErrDead)
	told(p.t, "Install in doubt", p.l.Install(9, "", many(201, 9)), api.ErrDead)
	p.same()
	if p.d.Acts() != acts || !stateOf(p.l).is(was) {
		p.t.Errorf("in doubt: %d acts, %s, want %s", p.d.Acts()-acts, brief(stateOf(p.l)), brief(was))
	}
}

// TestH6Dead: a disk that died of another's call is found out by each call that has something to do, and by no other one.
func TestH6Dead(t *testing.T) {
	begun := func() *pair {
		p := newPair(t, 40)
		p.accept(5)
		p.append(at(3))
		p.sync()
		p.append(at(4))
		p.arm(1)
		told(t, "disk's Sync", p.d.Sync(), p.m.d.Sync())
		return p
	}
	for name, call := range map[string]func(l *ledger.Ledger) api.Errno{
		"Accept":  func(l *ledger.Ledger) api.Errno { return l.Accept(6) },
		"Adopt":   func(l *ledger.Ledger) api.Errno { return l.Adopt(2) },
		"Append":  func(l *ledger.Ledger) api.Errno { return l.Append(at(5)) },
		"Sync":    func(l *ledger.Ledger) api.Errno { return l.Sync() },
		"Cut":     func(l *ledger.Ledger) api.Errno { return l.Cut(4) },
		"Install": func(l *ledger.Ledger) api.Errno { return l.Install(0, "", nil) },
		"Compact": func(l *ledger.Ledger) api.Errno { return l.Compact(3, "s") },
	} {
		p := begun()
		told(t, name, call(p.l), api.ErrDead)
		p.m.doubt = true
		p.same()
		p.refuses()
		p.crash()
		p.refuses()
		told(t, "disk's Sync", p.d.Sync(), p.m.d.Sync())
		p.refuses()
		p.open()
	}
	p := begun()
	told(t, "Accept of the same", p.l.Accept(5), api.OK)
	told(t, "Accept of one below", p.l.Accept(4), api.ErrLedgerEpoch)
	told(t, "Adopt of one above", p.l.Adopt(6), api.ErrLedgerEpoch)
	told(t, "Append of a low one", p.l.Append(at(4)), api.ErrLedgerZxid)
	told(t, "Cut of none", p.l.Cut(9), api.ErrLedgerZxid)
	told(t, "Install of one below 0", p.l.Install(-1, "", nil), api.ErrArg)
	told(t, "Compact of none", p.l.Compact(9, ""), api.ErrLedgerZxid)
	told(t, "Compact of a long one", p.l.Compact(3, xs(65537)), api.ErrArg)
	told(t, "Install of too much", p.l.Install(1, xs(6000), nil), api.ErrLedgerFull)
	p.same()
	p.crash(1, 1)
	p.accept(7)
	p.sync()
	p.open()
	if p.l.Last() != 4 {
		t.Errorf("Last: %d", p.l.Last())
	}
}

// step makes a call that the random source gives; behind a death the disk crashes, and the ledger is opened again.
func step(p *pair, random *rand.Rand) {
	p.t.Helper()
	if random.Intn(6) == 0 {
		p.arm(random.Intn(8))
	}
	switch random.Intn(14) {
	case 0:
		p.accept(p.m.accepted + random.Intn(4) - 1)
	case 1:
		p.adopt(p.m.current + random.Intn(4) - 1)
	case 2, 3, 4, 5, 6:
		p.append(anyEntry(random, p.m.last()))
	case 7, 8:
		p.sync()
	case 9:
		p.cut(anyZxid(random, p.m))
	case 10:
		p.compact(anyZxid(random, p.m), xs(random.Intn(1+random.Intn(5000))))
	case 11:
		base := random.Intn(3*epoch) >> random.Intn(34)
		l := []api.Entry{}
		for last := base; len(l) < random.Intn(9); last = l[len(l)-1].Zxid {
			l = append(l, anyEntry(random, last))
		}
		p.install(base, xs(random.Intn(1+random.Intn(5000))), l...)
	case 12:
		if !p.d.Dead() {
			p.open()
		}
	case 13:
		if !p.d.Dead() && random.Intn(12) == 0 {
			p.format()
		}
	}
	for p.d.Dead() {
		p.open()
		p.crash(anyFates(random)...)
		p.open()
		if p.m.doubt { // a Format that died may leave no ledger
			p.format()
		}
	}
}

// anyZxid is mostly one that is there.
func anyZxid(random *rand.Rand, m *model) int {
	n := random.Intn(len(m.entries) + 2)
	if n >= len(m.entries) {
		return m.base + random.Intn(2)
	}
	return m.entries[n].Zxid + random.Intn(7)/6
}

// anyEntry is mostly one that may come behind a zxid.
func anyEntry(random *rand.Rand, last int) api.Entry {
	zxid := last + random.Intn(9)
	if random.Intn(8) == 0 {
		zxid = (last>>32 + 1) << 32
	}
	switch random.Intn(4) {
	case 0:
		return rich(zxid)
	case 1:
		return sized(zxid, 40+random.Intn(300))
	}
	return api.Entry{Zxid: zxid, Session: random.Int(), Xid: random.Intn(100)}
}

func TestRandom(t *testing.T) {
	for seed := range 300 {
		random := rand.New(rand.NewSource(int64(seed)))
		p := newPair(t, []int{16, 20, 33, 64, 100, 200}[random.Intn(6)])
		for range 80 {
			step(p, random)
			if t.Failed() {
				t.Fatalf("seed %d", seed)
			}
		}
	}
}
