package wal_test

import (
	"math/rand"
	"slices"
	"testing"

	"arboretum/api"
	"arboretum/wal"
)

// calls are those that act, with what would be behind each of them done to the records that are there.
var calls = []struct {
	name string
	do   func(p *pair)
	then func(s state) state
}{
	{"Append", func(p *pair) { p.append("new") }, func(s state) state { return s }},
	{"a long Append", func(p *pair) { p.append(xs(150)) }, func(s state) state { return s }},
	{"Sync", func(p *pair) { p.append("new"); p.sync() }, func(s state) state {
		s.records = append(slices.Clone(s.all), "new")
		return s
	}},
	{"Cut of all", func(p *pair) { p.cut(0) }, func(s state) state { s.records = nil; return s }},
	{"Cut of one", func(p *pair) { p.cut(max(0, p.l.Len()-1)) }, func(s state) state {
		s.records = s.all[:max(0, len(s.all)-1)]
		return s
	}},
	{"Cut of none", func(p *pair) { p.cut(p.l.Len()) }, func(s state) state { s.records = s.all; return s }},
	{"Renew", func(p *pair) { p.renew("r1", "", xs(70)) }, func(s state) state {
		s.records = []string{"r1", "", xs(70)}
		return s
	}},
	{"Renew of none", func(p *pair) { p.renew() }, func(s state) state { s.records = nil; return s }},
	{"Mark", func(p *pair) { p.mark(1<<40+7, 1<<50+8) }, func(s state) state {
		s.a, s.b = 1<<40+7, 1<<50+8
		return s
	}},
}

// state is what lasts of a log; and all records, those that are not synced with them.
type state struct {
	records, all []string
	a, b         int
}

func stateOf(l *wal.Log) state {
	all, _ := l.Records()
	a, b := l.Marks()
	return state{all[:l.Synced()], all, a, b}
}

func (s state) is(l *wal.Log) bool {
	records, e := l.Records()
	a, b := l.Marks()
	return e == api.OK && l.Synced() == len(records) && slices.Equal(records, s.records) && a == s.a && b == s.b
}

// beginnings are logs as calls may leave them; the counts of their marks have other bytes at either end.
var beginnings = []struct {
	name  string
	count uint32
	do    func(p *pair)
}{
	{"a new one", 1, func(p *pair) {}},
	{"records", 1, func(p *pair) { p.append("ab"); p.append(xs(40)); p.sync() }},
	{"records that are not synced", 1, func(p *pair) { p.append("ab"); p.sync(); p.append("c"); p.append(xs(90)) }},
	{"numbers", 1, func(p *pair) { p.mark(5, 6); p.append("ab"); p.sync(); p.mark(7, 1<<62); p.append("c") }},
	{"renewed", 1, func(p *pair) { p.append("ab"); p.renew("p", xs(60)); p.append("c") }},
	{"renewed twice", 1, func(p *pair) { p.renew("p", xs(60)); p.renew(xs(10)); p.append("c") }},
	{"cut", 1, func(p *pair) { p.append(xs(100)); p.append(xs(50)); p.sync(); p.cut(1) }},
	{"the count 255", 254, func(p *pair) { p.mark(1, 2) }},
	{"the count 256", 254, func(p *pair) { p.mark(1, 2); p.mark(3, 4) }},
	{"the count 65536", 65535, func(p *pair) { p.mark(1, 2) }},
	{"the count 2^24 and 1", 1<<24 - 1, func(p *pair) { p.append("x"); p.sync(); p.mark(3, 4) }},
	{"a torn mark", 1, func(p *pair) {
		p.append("ab")
		p.sync()
		p.arm(1)
		p.mark(1<<60, 9)
		p.crash(2 + 3*40)
		p.open()
		p.append("c")
	}},
	{"a torn record", 1, func(p *pair) {
		p.append("ab")
		p.sync()
		p.arm(2)
		p.append(xs(90))
		p.crash(2+3*20, 2+3*50)
		p.open()
	}},
}

// begin makes a log as one of the beginnings is.
func begin(t *testing.T, count uint32, do func(p *pair)) *pair {
	t.Helper()
	sectors := map[int]string{int(count % 2): marked{count: count}.sector()}
	if count > 1 {
		sectors[int(count+1)%2] = marked{count: count - 1}.sector()
	}
	p := crafted(t, 24, sectors)
	p.open()
	do(p)
	return p
}

// fates are those that the first pending sector meets, which is the mark's if one was written; the others meet ones that the random source gives.
func fates() []int {
	l := []int{0, 1, -1, -2}
	for b := range 65 {
		l = append(l, 2+3*b)
	}
	return l
}

// TestA9 lets the disk die at each act of each call, crash in every way of the first sector, and opens it again.
func TestA9(t *testing.T) {
	random := rand.New(rand.NewSource(9))
	for _, from := range beginnings {
		for _, call := range calls {
			for n := 1; ; n++ {
				alive := false
				for _, fate := range fates() {
					p := begin(t, from.count, from.do)
					ahead := stateOf(p.l)
					p.arm(n)
					call.do(p)
					if alive = !p.d.Dead(); alive {
						break
					}
					p.crash(append([]int{fate}, anyFates(random)...)...)
					p.open()
					if behind := call.then(ahead); !ahead.is(p.l) && !behind.is(p.l) {
						got, _ := p.l.Records()
						t.Fatalf("%s, %s, dead at the act %d, the fate %d: %q", from.name, call.name, n, fate, got)
					}
					goesOn(p)
				}
				if alive {
					break
				}
			}
		}
	}
}

func anyFates(random *rand.Rand) []int {
	l := make([]int, random.Intn(12))
	for i := range l {
		l[i] = random.Intn(400) - 200
	}
	return l
}

// goesOn: what was opened is a log like any other one.
func goesOn(p *pair) {
	p.t.Helper()
	p.append("goes on")
	p.sync()
	p.open()
}

// TestA9Behind: a call that has answered OK is lasting (all but Append), however the disk crashes then.
func TestA9Behind(t *testing.T) {
	for _, from := range beginnings {
		for _, call := range calls {
			for _, how := range [][]int{nil, {1, 1, 1, 1, 1, 1}, {2, 5, 50, 8, 8}} {
				p := begin(t, from.count, from.do)
				behind := call.then(stateOf(p.l))
				call.do(p)
				p.crash(how...)
				p.open()
				if !behind.is(p.l) {
					got, _ := p.l.Records()
					t.Errorf("%s, %s: %q, want %q", from.name, call.name, got, behind.records)
				}
			}
		}
	}
}

// TestDoubt: of a log whose disk has died at a call of its own nothing more is taken, and it tells what it told ahead of that.
func TestDoubt(t *testing.T) {
	for _, from := range beginnings {
		for _, call := range calls {
			for n := 1; ; n++ {
				p := begin(t, from.count, from.do)
				p.arm(n)
				call.do(p)
				if !p.d.Dead() {
					break
				}
				refuses(p)
				p.crash()
				refuses(p)
				told(t, "disk's Sync", p.d.Sync(), p.m.d.Sync())
				refuses(p)
			}
		}
	}
}

func refuses(p *pair) {
	p.t.Helper()
	acts := p.d.Acts()
	told(p.t, "Append", p.l.Append("a"), api.ErrWalDoubt)
	told(p.t, "Append of a long one", p.l.Append(xs(4001)), api.ErrWalDoubt)
	told(p.t, "Append of one too many", p.l.Append(xs(4000)), api.ErrWalDoubt)
	told(p.t, "Sync", p.l.Sync(), api.ErrWalDoubt)
	told(p.t, "Cut", p.l.Cut(0), api.ErrWalDoubt)
	told(p.t, "Cut of none", p.l.Cut(-1), api.ErrWalDoubt)
	told(p.t, "Renew", p.l.Renew(nil), api.ErrWalDoubt)
	told(p.t, "Renew of a long one", p.l.Renew([]string{xs(4001)}), api.ErrWalDoubt)
	told(p.t, "Renew of too many", p.l.Renew([]string{xs(4000)}), api.ErrWalDoubt)
	told(p.t, "Mark", p.l.Mark(1, 1), api.ErrWalDoubt)
	told(p.t, "Mark below 0", p.l.Mark(-1, 1), api.ErrWalDoubt)
	p.same()
	if p.d.Acts() != acts {
		p.t.Errorf("%d acts", p.d.Acts()-acts)
	}
}

// TestDeadAheadOfACall: each call that has something to do finds it out.
func TestDeadAheadOfACall(t *testing.T) {
	for _, call := range []func(l *wal.Log) api.Errno{
		func(l *wal.Log) api.Errno { return l.Append("") },
		func(l *wal.Log) api.Errno { return l.Append(xs(40)) },
		func(l *wal.Log) api.Errno { return l.Sync() },
		func(l *wal.Log) api.Errno { return l.Cut(2) },
		func(l *wal.Log) api.Errno { return l.Renew(nil) },
		func(l *wal.Log) api.Errno { return l.Renew([]string{"a"}) },
		func(l *wal.Log) api.Errno { return l.Mark(0, 0) },
	} {
		p := newPair(t, 20)
		p.append("a")
		p.append("b")
		p.arm(1)
		told(t, "disk's Sync", p.d.Sync(), p.m.d.Sync())
		acts := p.d.Acts()
		holds(t, p.l, "a", "b")
		told(t, "of a dead disk", call(p.l), api.ErrDead)
		p.m.doubt = true
		p.same()
		p.crash()
		refuses(p)
		if p.d.Acts() != acts {
			t.Errorf("%d acts", p.d.Acts()-acts)
		}
	}
}

// step makes a call that the random source gives; behind a death the disk crashes, and the log is opened again.
func step(p *pair, random *rand.Rand) {
	p.t.Helper()
	if random.Intn(6) == 0 {
		p.arm(random.Intn(8))
	}
	room := p.l.Room()
	switch random.Intn(12) {
	case 0:
		p.append(xs(max(0, room)))
	case 1:
		p.append(xs(room + 1 + random.Intn(2)))
	case 2, 3, 4, 5:
		p.append(anyRecord(random))
	case 6:
		p.sync()
	case 7:
		p.cut(random.Intn(p.l.Len()+3) - 1)
	case 8:
		l := make([]string, random.Intn(8))
		for i := range l {
			l[i] = anyRecord(random)
		}
		p.renew(l...)
	case 9:
		p.mark(random.Int()>>random.Intn(63), random.Intn(200)-10)
	case 10:
		p.open2()
	case 11:
		if random.Intn(10) == 0 {
			p.format2()
		}
	}
	if p.d.Dead() {
		p.open2()
		p.crash(anyFates(random)...)
		p.open2()
		if p.m.doubt { // a Format that died may leave no log
			p.format()
		}
	}
}

// format2 formats, though the disk may die of it.
func (p *pair) format2() {
	p.t.Helper()
	l, e := wal.Format(p.d)
	m, want := formatModel(p.m.d)
	if e != want || (l == nil) != (want != api.OK) {
		p.t.Errorf("Format: %v, %d, want %d", l, e, want)
	}
	if m == nil {
		p.m.doubt = true
		return
	}
	p.l, p.m = l, m
	p.same()
}

func anyRecord(random *rand.Rand) string {
	b := make([]byte, random.Intn(1+random.Intn(150)))
	for i := range b {
		b[i] = byte(random.Intn(256))
	}
	return string(b)
}

func TestRandom(t *testing.T) {
	for seed := range 300 {
		random := rand.New(rand.NewSource(int64(seed)))
		p := newPair(t, 16+random.Intn(20))
		for range 80 {
			step(p, random)
			if t.Failed() {
				t.Fatalf("seed %d", seed)
			}
		}
	}
}
