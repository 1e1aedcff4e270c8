package watch_test

import (
	"math/rand"
	"slices"
	"testing"

	"arboretum/api"
	"arboretum/path"
	"arboretum/tree"
)

// grown is a tree of /, /a and /a/b: of /a Czxid is 5, Mzxid 7, Pzxid 8; its own zxid is 8.
func grown() *tree.Tree {
	now := tree.New()
	now.Apply(api.Entry{Zxid: 5, Txn: api.Txn{Kind: 1, Path: "/a", Number: 1}})
	now.Apply(api.Entry{Zxid: 7, Txn: api.Txn{Kind: 3, Path: "/a", Number: 1}})
	now.Apply(api.Entry{Zxid: 8, Txn: api.Txn{Kind: 1, Path: "/a/b", Number: 1}})
	return now
}

// tellsOf holds what Arm of one watch tells; if it is nothing, the watch is there.
func tellsOf(t *testing.T, now *tree.Tree, a api.Armed, want ...api.Event) {
	t.Helper()
	p := newPair(t)
	if l := p.arm(7, now, a); !slices.Equal(l, want) {
		t.Errorf("Arm(%+v): %v, want %v", a, l, want)
	}
	if n := p.x.Count(7); n != 1-len(want) {
		t.Errorf("Arm(%+v): %d watches", a, n)
	}
	if l := p.fire(event(2, a.Path, 9)); len(l) != 1-len(want) {
		t.Errorf("Arm(%+v), then Fire: %v", a, l)
	}
	p.drain()
}

// TestE3WatchExist: whatever numbers it has, it tells of a node by that one's own.
func TestE3WatchExist(t *testing.T) {
	now := grown()
	for _, n := range [][3]int{{}, {5, 7, 8}, {8, 8, 8}, {1, 2, 3}} {
		tellsOf(t, now, armed(2, "/a", n[0], n[1], n[2]), event(1, "/a", 5))
		tellsOf(t, now, armed(2, "/a/b", n[0], n[1], n[2]), event(1, "/a/b", 8))
		tellsOf(t, now, armed(2, "/", n[0], n[1], n[2]), event(1, "/", 0))
		for _, at := range []string{"/b", "/ab", "/a/c", "/a/b/c", "/A"} {
			tellsOf(t, now, armed(2, at, n[0], n[1], n[2]))
		}
	}
}

// TestE3Gone: no node, or another one: told with the tree's zxid, whatever the other numbers are.
func TestE3Gone(t *testing.T) {
	for _, zxid := range []int{8, 0, 1<<32 + 9, -4} {
		now := grown()
		now.LayZxid(zxid)
		for _, kind := range []int{1, 3} {
			for _, n := range [][3]int{{}, {5, 7, 8}, {8, 8, 8}, {1, 2, 3}} {
				tellsOf(t, now, armed(kind, "/b", n[0], n[1], n[2]), event(2, "/b", zxid))
				tellsOf(t, now, armed(kind, "/a/b/c", n[0], n[1], n[2]), event(2, "/a/b/c", zxid))
			}
			for _, c := range []int{0, 4, 6, 7, 8, -5, 1<<32 + 5} {
				tellsOf(t, now, armed(kind, "/a", c, 7, 8), event(2, "/a", zxid))
			}
			for _, c := range []int{-1, 1, 5} {
				tellsOf(t, now, armed(kind, "/", c, 0, 5), event(2, "/", zxid))
			}
		}
	}
}

// TestE3Data: of the node itself, by its Mzxid alone.
func TestE3Data(t *testing.T) {
	now := grown()
	for _, q := range []int{0, 5, 7, 8, 9} {
		tellsOf(t, now, armed(1, "/a", 5, 7, q))
		tellsOf(t, now, armed(1, "/", 0, 0, q))
		for _, m := range []int{-7, 0, 5, 6, 8, 9, 1<<32 + 7} {
			tellsOf(t, now, armed(1, "/a", 5, m, q), event(3, "/a", 7))
		}
		tellsOf(t, now, armed(1, "/", 0, 1, q), event(3, "/", 0))
	}
}

// TestE3Kids: of its kids, by its Pzxid alone.
func TestE3Kids(t *testing.T) {
	now := grown()
	for _, m := range []int{0, 5, 7, 8, 9} {
		tellsOf(t, now, armed(3, "/a", 5, m, 8))
		tellsOf(t, now, armed(3, "/", 0, m, 5))
		for _, q := range []int{-8, 0, 5, 7, 9, 1<<32 + 8} {
			tellsOf(t, now, armed(3, "/a", 5, m, q), event(4, "/a", 8))
		}
		tellsOf(t, now, armed(3, "/", 0, m, 0), event(4, "/", 5))
	}
}

// TestE3AnyStat: nodes of any numbers, also such as stand without their parent.
func TestE3AnyStat(t *testing.T) {
	for _, c := range numbers() {
		for _, other := range []int{c, c + 1, 0, 7} {
			now := tree.New()
			now.Lay("/a/b", "x", nil, api.Stat{Czxid: c, Mzxid: other, Pzxid: -other, Version: 3, Owner: 4})
			now.LayZxid(11)
			for _, kind := range []int{1, 2, 3} {
				p := newPair(t)
				for _, a := range []api.Armed{armed(kind, "/a/b", c, other, -other), armed(kind, "/a/b", c, -other, other), armed(kind, "/a/b", other, c, c), armed(kind, "/a", 0, 0, 0)} {
					p.arm(7, now, a)
				}
				p.drain()
			}
		}
	}
}

// TestE3Nothing: of no session, and of no tree.
func TestE3Nothing(t *testing.T) {
	now := grown()
	l := []api.Armed{armed(1, "/a", 5, 7, 8), armed(1, "/b", 1, 1, 1), armed(2, "/b", 0, 0, 0), armed(2, "/a", 0, 0, 0), armed(3, "/a", 5, 7, 8)}
	p := newPair(t)
	p.add(8, 1, "/a")
	for _, session := range numbers() {
		if events := p.arm(session, nil, l...); len(events) != 0 || p.x.Count(session) != 0 {
			t.Errorf("Arm(%d, nil): %v, %d watches", session, events, p.x.Count(session))
		}
		if session > 0 {
			continue
		}
		if events := p.arm(session, now, l...); len(events) != 0 || p.x.Count(session) != 0 {
			t.Errorf("Arm(%d): %v, %d watches", session, events, p.x.Count(session))
		}
	}
	if events := p.arm(7, now); len(events) != 0 || p.x.Count(7) != 0 {
		t.Errorf("Arm of nothing: %v", events)
	}
	p.counts()
	p.drain()
}

// TestE3PassedOver: what may not be a watch is nothing, and those around it are what they are.
func TestE3PassedOver(t *testing.T) {
	now := grown()
	bad := []api.Armed{{}}
	for _, kind := range numbers() {
		if kind < 1 || kind > 3 {
			bad = append(bad, armed(kind, "/a", 5, 7, 8), armed(kind, "/a", 1, 1, 1), armed(kind, "/b", 1, 1, 1), armed(kind, "", 0, 0, 0))
		}
	}
	for _, at := range wrong() {
		for kind := 1; kind <= 3; kind++ {
			bad = append(bad, armed(kind, at, 0, 0, 0), armed(kind, at, 5, 7, 8))
		}
	}
	for _, a := range bad {
		p := newPair(t)
		if l := p.arm(7, now, a, a); len(l) != 0 || p.x.Count(7) != 0 {
			t.Errorf("Arm(%s): %v", brief(a), l)
		}
		l := p.arm(7, now, a, armed(1, "/a", 5, 7, 8), a, armed(2, "/a", 0, 0, 0), a, armed(2, "/b", 0, 0, 0), a)
		if !slices.Equal(l, []api.Event{event(1, "/a", 5)}) || p.x.Count(7) != 2 {
			t.Errorf("Arm with %s: %v, %d watches", brief(a), l, p.x.Count(7))
		}
		p.drain()
	}
	p := newPair(t)
	if l := p.arm(7, now, bad...); len(l) != 0 {
		t.Errorf("Arm of nothing that is right: %v", l)
	}
	p.drain()
}

// TestE3Order: events in the order of what they are told of, and one that is the same as one ahead is left out.
func TestE3Order(t *testing.T) {
	now := grown()
	p := newPair(t)
	l := []api.Armed{
		armed(3, "/c", 0, 0, 0), armed(2, "/a/b", 0, 0, 0), armed(1, "/a", 5, 5, 5), armed(1, "/c", 7, 7, 7),
		armed(3, "/a", 5, 5, 5), armed(2, "/c", 0, 0, 0), armed(1, "/a", 4, 7, 8), armed(3, "/", 0, 0, 4),
		armed(1, "/a", 5, 6, 6), armed(2, "/a/b", 1, 1, 1), armed(1, "/", 0, 0, 0), armed(3, "/a", 1, 1, 1), armed(2, "/a", 0, 0, 0),
	}
	want := []api.Event{event(2, "/c", 8), event(1, "/a/b", 8), event(3, "/a", 7), event(4, "/a", 8), event(2, "/a", 8), event(4, "/", 5), event(1, "/a", 5)}
	if got := p.arm(7, now, l...); !slices.Equal(got, want) {
		t.Errorf("Arm: %v, want %v", got, want)
	}
	if n := p.x.Count(7); n != 2 {
		t.Errorf("Arm: %d watches", n)
	}
	// It is left out of one answer, not of the next.
	if got := p.arm(7, now, l...); !slices.Equal(got, want) {
		t.Errorf("Arm again: %v, want %v", got, want)
	}
	if got := p.arm(8, now, l...); !slices.Equal(got, want) {
		t.Errorf("Arm of another: %v, want %v", got, want)
	}
	for i := range l {
		newPair(t).arm(7, now, l[i:]...)
	}
	slices.Reverse(l)
	p.arm(9, now, l...)
	p.drain()
}

// TestE3TakesNothing: what is told so takes no watch away, of nobody.
func TestE3TakesNothing(t *testing.T) {
	now := grown()
	p := newPair(t)
	for session := 6; session <= 8; session++ {
		for kind := 1; kind <= 3; kind++ {
			p.add(session, kind, "/a")
			p.add(session, kind, "/c")
		}
	}
	p.arm(7, now, armed(1, "/a", 5, 5, 5), armed(2, "/a", 0, 0, 0), armed(3, "/a", 4, 4, 4), armed(1, "/c", 1, 1, 1))
	p.counts()
	if n := p.x.Count(7); n != 6 {
		t.Errorf("Count(7): %d", n)
	}
	p.arm(7, now, armed(1, "/a", 5, 7, 8), armed(2, "/c", 0, 0, 0))
	p.counts()
	p.drain()
}

// TestE3Full: what finds no room is not there, nobody is told; what was there is, and events are told.
func TestE3Full(t *testing.T) {
	now := grown()
	p := full(t)
	l := p.arm(7, now, armed(1, "/a", 5, 7, 8), armed(2, "/0", 0, 0, 0), armed(2, "/1", 0, 0, 0), armed(1, "/a", 5, 5, 5), armed(1, "/0", 1, 1, 1))
	if !slices.Equal(l, []api.Event{event(3, "/a", 7), event(2, "/0", 8)}) || p.x.Count(7) != 64 {
		t.Errorf("Arm: %v, %d watches", l, p.x.Count(7))
	}
	// Of those that are armed at once as many as there is room for, the first ones.
	p.fire(event(2, "/0", 9), event(2, "/1", 9))
	p.arm(7, now, armed(1, "/a", 5, 7, 8), armed(1, "/a", 5, 7, 8), armed(2, "/x", 0, 0, 0), armed(2, "/y", 0, 0, 0), armed(3, "/", 0, 0, 5))
	p.tells([]api.Event{event(1, "/y", 10), event(4, "/", 10)})
	p.tells([]api.Event{event(1, "/x", 10), event(3, "/a", 10)}, 7)
	p.drain()

	q, rows := newPair(t), []api.Armed{}
	for _, at := range many(100) {
		rows = append(rows, armed(2, at, 0, 0, 0))
	}
	if l := q.arm(7, now, rows...); len(l) != 0 || q.x.Count(7) != 64 {
		t.Errorf("Arm: %v, %d watches", l, q.x.Count(7))
	}
	q.drain()
}

// sound is a change that finds what it needs in a tree, by chance: of one of few paths, so that the same ones come and go.
func sound(x *rand.Rand, now *tree.Tree) api.Txn {
	paths := []string{"/a", "/b", "/a/a", "/a/b", "/b/a", "/a/a/a"}
	at := paths[x.Intn(len(paths))]
	s, is := now.Stat(at)
	up, has := now.Stat(path.Parent(at))
	switch x.Intn(8) {
	case 0, 1, 2:
		if !is && has {
			return api.Txn{Kind: 1, Path: at, Number: up.Cversion + 1}
		}
	case 3, 4:
		if is && s.Kids == 0 {
			return api.Txn{Kind: 2, Path: at, Number: up.Cversion + 1}
		}
	case 5:
		if is {
			return api.Txn{Kind: 3, Path: at, Data: "x", Number: s.Version + 1}
		}
	case 6:
		if is {
			return api.Txn{Kind: 4, Path: at, Number: s.Aversion + 1}
		}
	case 7:
		root, _ := now.Stat("/")
		if x.Intn(2) == 0 {
			return api.Txn{Kind: 3, Path: "/", Data: "y", Number: root.Version + 1}
		}
	}
	return api.Txn{}
}

// soundMulti is up to three of them, each of which finds what it needs behind those ahead.
func soundMulti(x *rand.Rand, now *tree.Tree) api.Txn {
	u, subs := now.Clone(), []api.Txn{}
	for range 1 + x.Intn(3) {
		sub := sound(x, u)
		u.Apply(api.Entry{Zxid: now.Zxid() + 1, Txn: sub})
		subs = append(subs, sub)
	}
	return api.Txn{Kind: 7, Subs: subs}
}

// history is trees, each behind one transaction more, and what changed by it: events[i] lead from nows[i] to nows[i+1].
func history(x *rand.Rand, n int) (nows []*tree.Tree, events [][]api.Event) {
	now := tree.New()
	nows = append(nows, now.Clone())
	for range n {
		txn := sound(x, now)
		if x.Intn(4) == 0 {
			txn = soundMulti(x, now)
		}
		l, _ := now.Apply(api.Entry{Zxid: now.Zxid() + 1 + x.Intn(2), Txn: txn})
		nows, events = append(nows, now.Clone()), append(events, l)
	}
	return nows, events
}

func grow(x *rand.Rand, n int) []*tree.Tree {
	nows, _ := history(x, n)
	return nows
}

// asLaid is a watch of a kind, with what Get, Exists or Kids told when it was laid; false: they lay none of that kind there.
func asLaid(now *tree.Tree, kind int, at string) (api.Armed, bool) {
	s, is := now.Stat(at)
	return armed(kind, at, s.Czxid, s.Mzxid, s.Pzxid), is == (kind != 2)
}

// TestE4: a watch is laid at each time of a history, and armed at each later one: an event is told, if anything has happened since that would have met it, but of a node that came and went again.
func TestE4(t *testing.T) {
	x := rand.New(rand.NewSource(4))
	seen := map[int]int{}
	for range 30 {
		nows, events := history(x, 40)
		for from, then := range nows {
			for kind := 1; kind <= 3; kind++ {
				for _, at := range []string{"/", "/a", "/b", "/a/a", "/a/b"} {
					if a, lays := asLaid(then, kind, at); lays {
						armedLater(t, a, nows[from:], events[from:], seen)
					}
				}
			}
		}
	}
	for _, kind := range []int{0, 1, 2, 3, 4, 9} {
		if seen[kind] < 100 {
			t.Errorf("of the kind %d: %d only", kind, seen[kind])
		}
	}
}

func armedLater(t *testing.T, a api.Armed, nows []*tree.Tree, events [][]api.Event, seen map[int]int) {
	t.Helper()
	here := newPair(t)
	here.add(7, a.Kind, a.Path)
	met := false
	for i, now := range nows {
		if i > 0 {
			l := here.fire(events[i-1]...)
			if met && len(l) > 0 || len(l) > 1 {
				t.Fatalf("%+v is told again: %v", a, l)
			}
			met = met || len(l) == 1
		}
		there := newPair(t)
		l := there.arm(7, now, a)
		_, is := now.Stat(a.Path)
		cameAndWent := a.Kind == 2 && met && !is
		if len(l) > 1 || (len(l) == 1) != (met && !cameAndWent) || there.x.Count(7) != 1-len(l) {
			t.Fatalf("%+v, armed %d transactions later, met %t: %v", a, i, met, l)
		}
		switch {
		case cameAndWent:
			seen[9]++
		case met:
			seen[l[0].Kind]++
		default:
			seen[0]++
		}
		if met && here.x.Count(7) != 0 {
			t.Fatalf("%+v is there still", a)
		}
	}
}
