package session_test

import (
	"math"
	"math/rand"
	"runtime"
	"slices"
	"testing"

	"arboretum/api"
	"arboretum/session"
)

func TestExamples(t *testing.T) {
	s := made(t)
	told(t, "Open", s.Open(7, 10, 0), api.OK)
	endsAt(t, s, 7, 12)
	lists(t, "Expired", s.Expired(11), nil, 11)
	lists(t, "Expired", s.Expired(12), []int{7}, 12)
	told(t, "Touch", s.Touch(7, 5), api.OK)
	endsAt(t, s, 7, 16)
	told(t, "Touch", s.Touch(7, 1), api.OK)
	endsAt(t, s, 7, 16)
	for _, x := range [][3]int{{0, 10, 0}, {7, 3, 0}, {7, 61, 0}, {7, 10, -1}} {
		told(t, "Open", s.Open(x[0], x[1], x[2]), api.ErrArg, x[:]...)
	}
	told(t, "Touch", s.Touch(8, 0), api.ErrSessionNone)
	told(t, "Close", s.Close(7), api.OK)
	told(t, "Close", s.Close(7), api.ErrSessionNone)
}

func TestS1New(t *testing.T) {
	p := newPair(t)
	p.same()
	for _, id := range edges {
		isNone(t, p.s, id)
		told(t, "Close", p.s.Close(id), api.ErrSessionNone, id)
		told(t, "Touch", p.s.Touch(id, 0), api.ErrSessionNone, id, 0)
		lists(t, "Expired", p.s.Expired(id), nil, id)
	}
	lists(t, "All", p.s.All(), nil)
}

// TestS1Arguments: Open of each argument at its edges, with every other one, by a tracker that has the session, that has another, that has none.
func TestS1Arguments(t *testing.T) {
	ids := append([]int{2, 3, 7, 589825}, edges...)
	timeouts := append([]int{3, 5, 10, 59, 61, 64}, edges...)
	p := newPair(t)
	for _, before := range []int{0, 1, 7} {
		for _, id := range ids {
			for _, timeout := range timeouts {
				for _, now := range edges {
					p.m.ids, p.m.sessions, p.s = nil, nil, made(t)
					p.open(before, 8, 100)
					p.open(id, timeout, now)
					p.deadline(id)
					p.deadline(before)
					lists(t, "All", p.s.All(), p.m.all())
				}
			}
		}
	}
}

func TestS1Timeouts(t *testing.T) {
	for timeout := -10; timeout <= 80; timeout++ {
		s := made(t)
		want := api.ErrArg
		if timeout >= 4 && timeout <= 60 {
			want = api.OK
		}
		told(t, "Open", s.Open(1, timeout, 0), want, 1, timeout, 0)
		if want != api.OK {
			lists(t, "All", s.All(), nil)
		}
	}
}

// TestS1Buckets: the deadline of every timeout, at times that fall on a bucket and between them.
func TestS1Buckets(t *testing.T) {
	for timeout := 4; timeout <= 60; timeout++ {
		for _, from := range []int{0, 1000, 1 << 31, 1 << 32, lastTime - 20} {
			for now := from; now <= from+20; now++ {
				p := newPair(t)
				p.open(3, timeout, now)
				p.deadline(3)
				at, _ := p.s.Deadline(3)
				if at%4 != 0 || at < now+timeout || at > now+timeout+3 {
					t.Errorf("Open(3, %d, %d): deadline %d", timeout, now, at)
				}
			}
		}
	}
}

func TestS1Anew(t *testing.T) {
	s := made(t)
	told(t, "Open", s.Open(7, 60, 1000), api.OK)
	told(t, "Touch", s.Touch(7, 2000), api.OK)
	endsAt(t, s, 7, 2060)
	// An Open lets a deadline fall, and what was touched ahead of it counts no more.
	told(t, "Open", s.Open(7, 5, 3), api.OK)
	endsAt(t, s, 7, 8)
	lists(t, "All", s.All(), []int{7})
	lists(t, "Expired", s.Expired(8), []int{7}, 8)
	// The timeout is that of the last Open.
	told(t, "Touch", s.Touch(7, 4), api.OK)
	endsAt(t, s, 7, 12)
	told(t, "Open", s.Open(7, 60, 4), api.OK)
	endsAt(t, s, 7, 64)
	told(t, "Touch", s.Touch(7, 8), api.OK)
	endsAt(t, s, 7, 68)
	// Of the same deadline, with another timeout.
	told(t, "Open", s.Open(7, 8, 60), api.OK)
	endsAt(t, s, 7, 68)
	told(t, "Touch", s.Touch(7, 64), api.OK)
	endsAt(t, s, 7, 72)
	told(t, "Close", s.Close(7), api.OK)
	lists(t, "All", s.All(), nil)
	told(t, "Open", s.Open(7, 4, 0), api.OK)
	endsAt(t, s, 7, 4)
}

// TestS1Refused: what is refused leaves the session that is there as it was.
func TestS1Refused(t *testing.T) {
	p := newPair(t)
	p.open(7, 10, 20)
	for _, x := range [][3]int{{7, 3, 40}, {7, 61, 40}, {7, 10, -1}, {7, 10, lastTime + 1}, {7, 0, 0}, {7, 12, math.MaxInt}, {-7, 10, 40}} {
		p.open(x[0], x[1], x[2])
		p.same()
	}
	p.touch(7, 40)
	endsAt(t, p.s, 7, 52)
}

func full(t *testing.T, timeout, now int) pair {
	t.Helper()
	p := newPair(t)
	for id := 1; id <= 16; id++ {
		p.open(id*10, timeout, now+id)
	}
	return p
}

func TestS1Full(t *testing.T) {
	p := full(t, 10, 0)
	p.same()
	if n := len(p.s.All()); n != 16 {
		t.Fatalf("%d sessions", n)
	}
	for _, id := range []int{1, 9, 11, 161, 170, math.MaxInt} {
		told(t, "Open", p.s.Open(id, 10, 50), api.ErrSessionFull, id, 10, 50)
		told(t, "Open", p.s.Open(id, 10, 0), api.ErrSessionFull, id, 10, 0)
		isNone(t, p.s, id)
	}
	// What may not be is told ahead of it.
	for _, x := range [][3]int{{0, 10, 50}, {-1, 10, 50}, {11, 3, 50}, {11, 61, 50}, {11, 10, -1}, {11, 10, lastTime + 1}} {
		told(t, "Open", p.s.Open(x[0], x[1], x[2]), api.ErrArg, x[:]...)
	}
	p.same()
	for id := 10; id <= 160; id += 10 {
		p.open(id, 20, 40)
		p.same()
	}
	told(t, "Open", p.s.Open(11, 20, 40), api.ErrSessionFull)
	// That a session has expired makes no room; that it was closed does, for one.
	lists(t, "Expired", p.s.Expired(60), p.m.all(), 60)
	told(t, "Open", p.s.Open(11, 20, 100), api.ErrSessionFull)
	p.close(160)
	p.open(11, 20, 40)
	p.same()
	told(t, "Open", p.s.Open(160, 20, 40), api.ErrSessionFull)
	p.same()
}

// TestS1FullOfBuckets: there is room for 16 sessions, of one deadline or of as many.
func TestS1FullOfBuckets(t *testing.T) {
	for _, apart := range []int{0, 1, 3, 4, 100} {
		p := newPair(t)
		for id := 1; id <= 20; id++ {
			p.open(id, 8, id*apart)
			p.same()
		}
		lists(t, "All", p.s.All(), []int{1, 2, 3, 4, 5, 6, 7, 8, 9, 10, 11, 12, 13, 14, 15, 16})
	}
}

func TestS2TouchNone(t *testing.T) {
	p := newPair(t)
	p.open(7, 10, 0)
	p.open(8, 10, 0)
	p.close(8)
	for _, id := range append([]int{6, 8, 9, -7, 70}, edges...) {
		for _, now := range edges {
			// That there is none is told ahead of what is no time.
			told(t, "Touch", p.s.Touch(id, now), api.ErrSessionNone, id, now)
		}
	}
	p.same()
}

func TestS2TouchNoTime(t *testing.T) {
	p := newPair(t)
	p.open(7, 10, 0)
	for _, now := range []int{math.MinInt, -lastTime, -4, -1, lastTime + 1, lastTime + 4, math.MaxInt - 9, math.MaxInt} {
		told(t, "Touch", p.s.Touch(7, now), api.ErrArg, 7, now)
		p.same()
	}
	endsAt(t, p.s, 7, 12)
	told(t, "Touch", p.s.Touch(7, lastTime), api.OK)
	endsAt(t, p.s, 7, lastTime+12)
	told(t, "Touch", p.s.Touch(7, lastTime+1), api.ErrArg)
	told(t, "Touch", p.s.Touch(7, 0), api.OK)
	endsAt(t, p.s, 7, lastTime+12)
}

// TestS2Touch: all pairs of times, in either order, with every timeout.
func TestS2Touch(t *testing.T) {
	for timeout := 4; timeout <= 60; timeout++ {
		for opened := range 12 {
			for now := range 24 {
				p := newPair(t)
				p.open(7, timeout, opened)
				p.touch(7, now)
				p.deadline(7)
				if at, _ := p.s.Deadline(7); at != max(bucketOf(opened, timeout), bucketOf(now, timeout)) {
					t.Errorf("Open(7, %d, %d), Touch(7, %d): %d", timeout, opened, now, at)
				}
				p.touch(7, now/2)
				p.touch(7, now+3)
				p.deadline(7)
			}
		}
	}
}

// TestS2TouchExpired: a session that has expired and was not closed is there still, and may be touched.
func TestS2TouchExpired(t *testing.T) {
	p := newPair(t)
	p.open(7, 10, 0)
	p.open(9, 10, 0)
	lists(t, "Expired", p.s.Expired(100), []int{7, 9}, 100)
	p.touch(7, 100)
	lists(t, "Expired", p.s.Expired(100), []int{9}, 100)
	lists(t, "Expired", p.s.Expired(111), []int{9}, 111)
	lists(t, "Expired", p.s.Expired(112), []int{7, 9}, 112)
	p.same()
}

func TestS2Close(t *testing.T) {
	p := newPair(t)
	for _, id := range []int{5, 3, 9} {
		p.open(id, 10, 0)
	}
	for _, id := range []int{4, 0, -3, 3, 3, 9, 9, 5, 5} {
		p.close(id)
		p.same()
	}
	lists(t, "All", p.s.All(), nil)
	isNone(t, p.s, 3)
	told(t, "Touch", p.s.Touch(3, 1), api.ErrSessionNone)
	lists(t, "Expired", p.s.Expired(math.MaxInt), nil)
}

// TestS3Expired: now at and around each deadline, and far from all.
func TestS3Expired(t *testing.T) {
	p := newPair(t)
	for id := 1; id <= 16; id++ {
		p.open(100+id*7%17, 4+id*11%50, id*5%17)
	}
	for now := -10; now <= 100; now++ {
		p.expired(now)
		p.expired(now)
	}
	p.same()
	lists(t, "Expired", p.s.Expired(math.MaxInt), p.m.all())
	lists(t, "Expired", p.s.Expired(math.MinInt), nil)
}

func TestS3LastDeadlines(t *testing.T) {
	p := newPair(t)
	for id, timeout := range []int{60, 59, 58, 57, 56, 4, 5} {
		p.open(id+1, timeout, lastTime)
	}
	for now := lastTime - 70; now <= lastTime+70; now++ {
		p.expired(now)
	}
	p.same()
	lists(t, "Expired", p.s.Expired(lastTime+60), []int{1, 2, 3, 4, 5, 6, 7})
	lists(t, "Expired", p.s.Expired(lastTime+59), []int{5, 6, 7})
}

// TestS3Rising: whatever order they were opened in; and the same each time.
func TestS3Rising(t *testing.T) {
	x := rand.New(rand.NewSource(3))
	for range 200 {
		p := newPair(t)
		for range 16 {
			p.open(1+x.Intn(1<<x.Intn(40)), 4+x.Intn(57), x.Intn(100))
		}
		now := x.Intn(180)
		for range 20 {
			p.expired(now)
			lists(t, "All", p.s.All(), p.m.all())
		}
		p.same()
	}
}

// TestS3TheyStay: telling that they have expired changes nothing.
func TestS3TheyStay(t *testing.T) {
	p := full(t, 10, 0)
	for range 5 {
		lists(t, "Expired", p.s.Expired(1000), p.m.all(), 1000)
	}
	p.same()
	p.close(50)
	lists(t, "Expired", p.s.Expired(1000), p.m.all(), 1000)
	p.touch(60, 995)
	p.same()
}

// TestS4Heard: at every time it is told whether a session has expired, as the times go on and it is touched now and then.
func TestS4Heard(t *testing.T) {
	x := rand.New(rand.NewSource(4))
	for timeout := 4; timeout <= 60; timeout++ {
		s := made(t)
		start := x.Intn(8)
		told(t, "Open", s.Open(7, timeout, start), api.OK)
		last, was, ended := start, 0, 0
		for now := start; now < 4000; now++ {
			has := len(s.Expired(now)) == 1
			if has && now-last < timeout {
				t.Fatalf("timeout %d, heard at %d: expired at %d", timeout, last, now)
			}
			if !has && now-last >= timeout+3 {
				t.Fatalf("timeout %d, heard at %d: not expired at %d", timeout, last, now)
			}
			if has {
				ended++
			}
			if x.Intn(timeout/2) == 0 && now-last > x.Intn(2*timeout) {
				told(t, "Touch", s.Touch(7, now), api.OK)
				last = now
			}
			at, _ := s.Deadline(7)
			if at < was {
				t.Fatalf("timeout %d: the deadline falls from %d to %d", timeout, was, at)
			}
			was = at
		}
		if ended < 10 {
			t.Errorf("timeout %d: expired at %d times only", timeout, ended)
		}
	}
}

// act does one thing of those that may be done to a session; a third of them open it, one of twelve closes it.
func act(p pair, kind, id, timeout, now int) {
	p.t.Helper()
	switch kind {
	case 0, 1, 2, 3:
		p.open(id, timeout, now)
	case 4:
		p.close(id)
	default:
		p.touch(id, now)
	}
}

// TestS4Alone: what is told of a session among others is what a tracker tells that has it alone.
func TestS4Alone(t *testing.T) {
	x := rand.New(rand.NewSource(5))
	for range 100 {
		together, alone := newPair(t), map[int]pair{}
		for id := 1; id <= 16; id++ {
			alone[id] = newPair(t)
		}
		for range 200 {
			kind, id, timeout, now := x.Intn(12), 1+x.Intn(16), 4+x.Intn(57), x.Intn(200)
			act(together, kind, id, timeout, now)
			act(alone[id], kind, id, timeout, now)
			for id, p := range alone {
				at, e := together.s.Deadline(id)
				if at2, e2 := p.s.Deadline(id); at != at2 || e != e2 {
					t.Fatalf("Deadline(%d): %d, %d among others, %d, %d alone", id, at, e, at2, e2)
				}
				if slices.Contains(together.s.Expired(now), id) != (len(p.s.Expired(now)) == 1) {
					t.Fatalf("Expired(%d): %d is told otherwise among others", now, id)
				}
			}
		}
	}
}

// TestAnything: any calls, right and wrong, in any order.
func TestAnything(t *testing.T) {
	x := rand.New(rand.NewSource(6))
	some := func(n int) int {
		if x.Intn(12) == 0 {
			return edges[x.Intn(len(edges))]
		}
		return x.Intn(n)
	}
	sizes := map[int]int{}
	for range 300 {
		p := newPair(t)
		for range 150 {
			act(p, x.Intn(12), some(30), some(70), some(300))
			p.expired(some(400))
			sizes[len(p.s.All())]++
		}
		p.same()
	}
	if sizes[0] < 100 || sizes[16] < 100 {
		t.Errorf("sessions at a time: %v", sizes)
	}
}

// TestNewMemory: what was told is its owner's: no other answer changes by it.
func TestNewMemory(t *testing.T) {
	p := full(t, 10, 0)
	asks := []func() []int{p.s.All, p.s.All, func() []int { return p.s.Expired(20) }, func() []int { return p.s.Expired(20) }, func() []int { return p.s.Expired(1000) }}
	for i, ask := range asks {
		told := ask()
		before := [][]int{}
		for _, other := range asks {
			before = append(before, other())
		}
		told = told[:cap(told)]
		for j := range told {
			told[j] = -1
		}
		_ = append(told[:len(told)/2], -2, -3)
		for j, other := range asks {
			lists(t, "told behind a writing", other(), before[j], i, j)
		}
		for j, l := range before {
			lists(t, "told ahead of a writing", l, asks[j](), i, j)
		}
	}
	p.same()
}

func TestApart(t *testing.T) {
	a, b := newPair(t), newPair(t)
	a.open(7, 10, 0)
	b.same()
	b.open(7, 20, 5)
	b.open(8, 20, 5)
	a.same()
	a.touch(7, 9)
	b.close(7)
	a.same()
	b.same()
	var l []*session.Tracker
	for range 20 {
		l = append(l, full(t, 10, 0).s)
	}
	for _, s := range l {
		lists(t, "All", s.All(), l[0].All())
	}
}

// TestKeepsLittle: what a tracker keeps hangs on the sessions that it has, not on all that was done to them.
func TestKeepsLittle(t *testing.T) {
	s := made(t)
	for id := 1; id <= 16; id++ {
		told(t, "Open", s.Open(id, 10, 0), api.OK)
	}
	heap := func() uint64 {
		var m runtime.MemStats
		runtime.GC()
		runtime.ReadMemStats(&m)
		return m.HeapAlloc
	}
	before := heap()
	for now := range 300000 {
		s.Touch(1+now%16, now)
		s.Open(1+now%3, 8, now)
		if now%7 == 0 {
			s.Close(1 + now%5)
		}
		s.Open(20+now, 8, now)
		s.Close(20 + now)
	}
	if behind := heap(); behind > before+1<<20 {
		t.Errorf("%d bytes were kept, then %d", before, behind)
	}
	runtime.KeepAlive(s)
}
