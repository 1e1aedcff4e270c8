package watch_test

import (
	"math"
	"math/rand"
	"runtime"
	"slices"
	"strconv"
	"testing"

	"arboretum/api"
)

func TestExamples(t *testing.T) {
	p := newPair(t)
	p.add(1, 1, "/a")
	p.add(1, 3, "/a")
	p.add(2, 1, "/a")
	p.add(2, 2, "/b")
	p.tells([]api.Event{event(3, "/a", 4)}, 1, 2)
	if n := p.x.Count(1); n != 1 {
		t.Errorf("Count(1): %d", n)
	}
	gone, kids, made := event(2, "/a", 5), event(4, "/", 5), event(1, "/b", 6)
	if l := p.fire(gone, kids, made); !slices.Equal(l, []api.Told{{Session: 1, Event: gone}, {Session: 2, Event: made}}) {
		t.Errorf("Fire: %v", l)
	}
	p.drain()

	now := grown()
	for _, c := range []struct {
		a    api.Armed
		want []api.Event
	}{
		{armed(1, "/a", 5, 5, 5), []api.Event{event(3, "/a", 7)}},
		{armed(1, "/a", 9, 7, 8), []api.Event{event(2, "/a", 8)}},
		{armed(1, "/a", 5, 7, 5), nil},
	} {
		p := newPair(t)
		if l := p.arm(1, now, c.a); !slices.Equal(l, c.want) || p.x.Count(1) != 1-len(c.want) {
			t.Errorf("Arm(%+v): %v, %d watches", c.a, l, p.x.Count(1))
		}
	}
}

// tells holds whom events are told: each of them the same ones.
func (p pair) tells(events []api.Event, sessions ...int) {
	p.t.Helper()
	want := []api.Told{}
	for _, e := range events {
		for _, session := range sessions {
			want = append(want, api.Told{Session: session, Event: e})
		}
	}
	if l := p.fire(events...); !slices.Equal(l, want) {
		p.t.Errorf("Fire(%s): %s, want %s", brief(events), brief(l), brief(want))
	}
}

func TestE1New(t *testing.T) {
	p := newPair(t)
	p.counts()
	for _, session := range numbers() {
		p.drop(session)
		for kind := range 6 {
			p.tells([]api.Event{event(kind, "/a", session), event(kind, "/", session)})
		}
	}
	p.drain()
}

// TestE1Add: each argument at its edges, with every other one; each in a table of its own, and all in one.
func TestE1Add(t *testing.T) {
	all := newPair(t)
	for _, session := range numbers() {
		for _, kind := range numbers() {
			for _, at := range texts() {
				p := newPair(t)
				p.add(session, kind, at)
				want := api.ErrArg
				if session > 0 && kind >= 1 && kind <= 3 && slices.Contains(right(), at) {
					want = api.OK
				}
				told(t, p.x.Add(session, kind, at), want, session, kind, at)
				p.count(session)
				all.add(session, kind, at)
			}
		}
	}
	all.drain()
}

func TestE1Again(t *testing.T) {
	p := newPair(t)
	for range 100 {
		for kind := 1; kind <= 3; kind++ {
			p.add(7, kind, "/a")
			p.add(8, kind, "/a")
		}
	}
	p.counts()
	if n := p.x.Count(7); n != 3 {
		t.Errorf("Count(7): %d", n)
	}
	p.tells([]api.Event{event(2, "/a", 5)}, 7, 8)
	p.tells([]api.Event{event(2, "/a", 5)})
	// What was told may be laid again.
	p.add(7, 1, "/a")
	p.tells([]api.Event{event(2, "/a", 5)}, 7)
	p.drain()
}

// many are paths of which no two are the same.
func many(n int) []string {
	l := []string{}
	for i := range n {
		l = append(l, "/"+strconv.Itoa(i))
	}
	return l
}

// full is a table whose session 7 has 64 watches, and 8 one.
func full(t *testing.T) pair {
	t.Helper()
	p := newPair(t)
	p.add(8, 1, "/0")
	for i, at := range many(64) {
		p.count(7)
		p.add(7, 1+i%3, at)
	}
	p.counts()
	if n := p.x.Count(7); n != 64 {
		t.Fatalf("Count(7): %d", n)
	}
	return p
}

func TestE1Full(t *testing.T) {
	p := full(t)
	refused := func() {
		t.Helper()
		told(t, p.x.Add(7, 1, "/x"), api.ErrSessionFull, 7, 1, "/x")
		told(t, p.x.Add(7, 2, "/0"), api.ErrSessionFull, 7, 2, "/0")
		told(t, p.x.Add(7, 3, "/0"), api.ErrSessionFull, 7, 3, "/0")
		told(t, p.x.Add(7, 1, "/"), api.ErrSessionFull, 7, 1, "/")
		p.counts()
	}
	refused()
	// What may not be is told ahead of it, and so is what is there.
	for _, kind := range []int{0, 4, -1} {
		told(t, p.x.Add(7, kind, "/0"), api.ErrArg, 7, kind, "/0")
	}
	for _, at := range wrong() {
		told(t, p.x.Add(7, 1, at), api.ErrArg, 7, 1, at)
	}
	for i, at := range many(64) {
		told(t, p.x.Add(7, 1+i%3, at), api.OK, 7, 1+i%3, at)
	}
	refused()
	// Others have room of their own.
	for _, at := range many(64) {
		p.add(8, 1, at)
	}
	told(t, p.x.Add(8, 2, "/0"), api.ErrSessionFull, 8, 2, "/0")
	p.add(9, 1, "/x")
	p.drain()
}

// TestE1Room: what was told makes room for as many as it took, and no more.
func TestE1Room(t *testing.T) {
	p := full(t)
	p.fire(event(2, "/0", 1), event(2, "/1", 1), event(4, "/3", 1))
	for _, at := range []string{"/a", "/b"} {
		told(t, p.x.Add(7, 1, at), api.OK, 7, 1, at)
		p.m.add(7, 1, at)
	}
	told(t, p.x.Add(7, 1, "/c"), api.ErrSessionFull, 7, 1, "/c")
	p.drop(8)
	told(t, p.x.Add(7, 1, "/c"), api.ErrSessionFull, 7, 1, "/c")
	p.drop(7)
	for _, at := range many(65) {
		p.add(7, 3, at)
	}
	told(t, p.x.Add(7, 1, "/c"), api.ErrSessionFull, 7, 1, "/c")
	p.drain()
}

func TestE1Drop(t *testing.T) {
	p := newPair(t)
	lay := func() {
		for _, session := range []int{1, 2, 7, 70, math.MaxInt} {
			for kind := 1; kind <= 3; kind++ {
				p.add(session, kind, "/a")
				p.add(session, kind, "/b")
			}
		}
	}
	for _, session := range []int{1, 7, math.MaxInt, 3, 0, -1, -7, math.MinInt, 1<<32 + 1} {
		lay()
		p.drop(session)
		p.counts()
		p.drop(session)
		p.counts()
		p.fire(event(2, "/a", 5))
		p.fire(event(1, "/b", 5))
	}
	lay()
	p.drain()
}

// TestE2Meets: each kind of event against each kind of watch, on the same path and on another one.
func TestE2Meets(t *testing.T) {
	for kind := 1; kind <= 3; kind++ {
		for _, what := range numbers() {
			p := newPair(t)
			p.add(7, kind, "/a")
			for _, other := range append(texts(), "/a/a", "/a/b", "/aa", "/A") {
				if other != "/a" {
					p.tells([]api.Event{event(what, other, 5)})
				}
			}
			meets := what == 1 && kind == 2 || what == 2 || what == 3 && kind != 3 || what == 4 && kind == 3
			if meets {
				p.tells([]api.Event{event(what, "/a", 5)}, 7)
			}
			p.tells([]api.Event{event(what, "/a", 5)})
			p.counts()
			p.drain()
		}
	}
}

// TestE2Once: a session is told once, whichever of its watches are met; and each that is met is gone.
func TestE2Once(t *testing.T) {
	for set := range 8 {
		for what := range 6 {
			for next := range 6 {
				p := newPair(t)
				for kind := 1; kind <= 3; kind++ {
					if set>>(kind-1)&1 == 1 {
						p.add(7, kind, "/a")
						p.add(7, kind, "/b")
					}
				}
				if l := p.fire(event(what, "/a", 5)); len(l) > 1 {
					t.Errorf("Fire: %v", l)
				}
				p.counts()
				p.fire(event(next, "/a", 6), event(next, "/b", 7))
				p.drain()
			}
		}
	}
}

// TestE2Rising: whatever order they were laid in.
func TestE2Rising(t *testing.T) {
	x := rand.New(rand.NewSource(2))
	for range 100 {
		p := newPair(t)
		for range 50 {
			session := 1 + x.Intn(1<<(1+x.Intn(60)))
			p.add(session, 1+x.Intn(3), "/a")
			p.add(session, 1+x.Intn(3), "/b")
		}
		p.add(math.MaxInt, 2, "/a")
		p.add(1, 2, "/a")
		l := p.fire(event(3, "/a", 5))
		if !slices.IsSortedFunc(l, func(a, b api.Told) int { return a.Session - b.Session }) || len(l) < 10 {
			t.Errorf("Fire: %v", l)
		}
		p.drain()
	}
}

// TestE2OneByOne: events are told in their order, whoever is told of them; one that came ahead has taken what the next would have met.
func TestE2OneByOne(t *testing.T) {
	p := newPair(t)
	for _, session := range []int{3, 2, 1} {
		p.add(session, 1, "/a")
		p.add(session, 3, "/a")
		p.add(session, 2, "/b")
	}
	p.add(2, 1, "/c")
	l := p.fire(event(2, "/c", 9), event(4, "/a", 8), event(1, "/a", 7), event(3, "/a", 6), event(2, "/a", 5), event(1, "/b", 4), event(2, "/b", 4))
	want := []api.Told{{Session: 2, Event: event(2, "/c", 9)}}
	for _, e := range []api.Event{event(4, "/a", 8), event(3, "/a", 6), event(1, "/b", 4)} {
		for session := 1; session <= 3; session++ {
			want = append(want, api.Told{Session: session, Event: e})
		}
	}
	if !slices.Equal(l, want) {
		t.Errorf("Fire: %v, want %v", l, want)
	}
	p.drain()
	// In another call as in the same one.
	events := []api.Event{event(3, "/a", 1), event(2, "/a", 2), event(1, "/a", 3), event(4, "/a", 3)}
	for cut := range 5 {
		p := newPair(t)
		for session := 1; session <= 4; session++ {
			p.add(session, 1+session%3, "/a")
			p.add(session, 1+session*2%3, "/a")
		}
		p.fire(events[:cut]...)
		p.counts()
		p.fire(events[cut:]...)
		p.drain()
	}
}

func TestE2NoEvents(t *testing.T) {
	p := full(t)
	p.tells(nil)
	p.tells([]api.Event{})
	p.tells([]api.Event{{}, {Kind: 1}, {Kind: 2}, {Path: "/0"}, {Path: "/1", Zxid: 7}})
	p.counts()
	p.drain()
}

// TestE2AsItIs: an event is told as it was handed in, whatever its zxid.
func TestE2AsItIs(t *testing.T) {
	for _, zxid := range numbers() {
		p := newPair(t)
		p.add(7, 2, "/a")
		p.tells([]api.Event{event(3, "/a", zxid)}, 7)
		p.drain()
	}
}

// TestAnything: any calls, right and wrong, in any order.
func TestAnything(t *testing.T) {
	x := rand.New(rand.NewSource(6))
	nows := grow(x, 60)
	paths := append([]string{"/", "/a", "/b", "/a/a", "/a/b", "a", "/a/"}, many(30)...)
	some := func(n int) int {
		if x.Intn(15) == 0 {
			return numbers()[x.Intn(len(numbers()))]
		}
		return 1 + x.Intn(n)
	}
	sizes := map[int]int{}
	for range 100 {
		p := newPair(t)
		for range 800 {
			session, at, now := some(4), paths[x.Intn(len(paths))], nows[x.Intn(len(nows))]
			switch act := x.Intn(100); {
			case act < 85:
				p.add(session, some(3), at)
			case act < 97:
				s, _ := now.Stat(at)
				p.arm(session, now, armed(some(3), at, s.Czxid+x.Intn(9)/8, s.Mzxid+x.Intn(3)/2, s.Pzxid+x.Intn(3)/2), armed(some(3), at, 0, 0, 0))
			case act < 99:
				p.fire(event(some(4), at, x.Intn(9)), event(some(4), paths[x.Intn(len(paths))], 1))
			case x.Intn(4) == 0:
				p.drop(session)
			}
			sizes[p.x.Count(session)]++
		}
		p.drain()
	}
	if sizes[0] < 100 || sizes[64] < 100 {
		t.Errorf("watches of a session: %v", sizes)
	}
}

// TestR3WhatIsHandedIn: it is not written into, nor what stands behind its length, and what is done to it behind the call changes nothing.
func TestR3WhatIsHandedIn(t *testing.T) {
	p := newPair(t)
	events := []api.Event{event(3, "/a", 5), event(2, "/a", 6), event(9, "x", 7)}
	rows := []api.Armed{armed(1, "/b", 0, 0, 0), armed(3, "/", 0, 0, 0), armed(7, "/c", 1, 2, 3)}
	copied, rowsCopied := slices.Clone(events), slices.Clone(rows)
	p.add(1, 1, "/a")
	p.add(2, 3, "/a")
	now := grown()
	same := now.Clone()
	fired := p.fire(events[:1]...)
	told := p.arm(1, now, rows[:1]...)
	p.arm(2, now, rows...)
	p.fire(events...)
	if !slices.Equal(events, copied) || !slices.Equal(rows, rowsCopied) || !now.Same(same) {
		t.Errorf("what was handed in is another: %v, %v", events, rows)
	}
	wasFired, wasTold := slices.Clone(fired), slices.Clone(told)
	clear(events)
	clear(rows)
	now.Apply(api.Entry{Zxid: 99, Txn: api.Txn{Kind: api.TxnSet, Path: "/a"}})
	if !slices.Equal(fired, wasFired) || !slices.Equal(told, wasTold) {
		t.Errorf("what was told is another: %v, %v", fired, told)
	}
	p.drain()
}

// TestR3NewMemory: what was told is its owner's: no other answer changes by it.
func TestR3NewMemory(t *testing.T) {
	p, now := full(t), grown()
	a := armed(1, "/a", 5, 5, 5)
	for range 3 {
		events := p.arm(7, now, a, armed(3, "/a", 5, 5, 5), armed(1, "/c", 5, 5, 5))
		again := p.arm(7, now, a)
		fired := p.fire(event(2, "/0", 5), event(2, "/1", 5), event(2, "/3", 5))
		wasAgain := slices.Clone(again)
		clear(events[:cap(events)])
		_ = append(events[:1], event(9, "/9", 9), event(9, "/9", 9))
		if !slices.Equal(again, wasAgain) {
			t.Errorf("Arm: %v, then %v", wasAgain, again)
		}
		clear(fired[:cap(fired)])
		for i, at := range many(4) {
			p.add(7, 1+i%3, at)
			p.add(8, 1+i%3, at)
		}
	}
	p.drain()
}

func TestR4Apart(t *testing.T) {
	a, b := newPair(t), newPair(t)
	a.add(7, 1, "/a")
	b.counts()
	b.add(7, 3, "/a")
	b.add(8, 3, "/a")
	a.counts()
	b.fire(event(4, "/a", 5))
	a.counts()
	a.drop(8)
	b.add(8, 1, "/b")
	a.drop(8)
	b.counts()
	a.drain()
	b.drain()
	// Those to which the same was done tell the same.
	var want []api.Told
	for range 20 {
		x := full(t).x
		for session := 1; session <= 30; session++ {
			x.Add(session, 2, "/0")
		}
		l := x.Fire(event(2, "/0", 5))
		if want == nil {
			want = l
		}
		if !slices.Equal(l, want) {
			t.Errorf("Fire: %v, want %v", l, want)
		}
	}
}

func heap() uint64 {
	var m runtime.MemStats
	runtime.GC()
	runtime.ReadMemStats(&m)
	return m.HeapAlloc
}

// TestKeepsLittle: what a table keeps hangs on the watches that it has, not on all that it had.
func TestKeepsLittle(t *testing.T) {
	x, now := made(t), grown()
	before := heap()
	for i := range 200000 {
		at := "/" + strconv.Itoa(i)
		x.Add(i, 1+i%3, at)
		x.Arm(i, now, armed(2, "/x", 0, 0, 0), armed(1, at, 0, 0, 0))
		x.Fire(event(2, at, i), event(2, "/x", i))
		x.Add(-1-i, 1, at)
		x.Add(1<<40+i, 1, at)
		x.Drop(1<<40 + i)
	}
	if behind := heap(); behind > before+1<<20 {
		t.Errorf("%d bytes were kept, then %d", before, behind)
	}
	runtime.KeepAlive(x)
}

// TestMany: sessions and events of which there are more than an ensemble has.
func TestMany(t *testing.T) {
	x, now := made(t), grown()
	paths := many(64)
	for session := 1; session <= 3000; session++ {
		for i, at := range paths {
			told(t, x.Add(session, 1+i%3, at), api.OK, session, 1+i%3, at)
		}
	}
	n, events := 0, []api.Event{}
	for i, at := range paths {
		events = append(events, event(4, at, i), event(1, at, i), event(3, at, i))
	}
	for i, l := range x.Fire(events...) {
		if l.Session != 1+i%3000 || l.Event.Path != paths[i/3000] {
			t.Fatalf("Fire: %+v at %d", l, i)
		}
		n++
	}
	if n != 3000*64 || x.Count(1) != 0 || x.Count(3000) != 0 {
		t.Errorf("Fire: %d are told", n)
	}
	rows := []api.Armed{}
	for _, at := range many(50000) {
		rows = append(rows, armed(1, at, 5, 5, 5), armed(3, at, 5, 5, 5))
	}
	for i, e := range x.Arm(7, now, rows...) {
		if e != event(2, rows[2*i].Path, 8) {
			t.Fatalf("Arm: %+v at %d", e, i)
		}
	}
}
