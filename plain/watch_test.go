package plain_test

import (
	"fmt"
	"slices"
	"testing"

	"arboretum/api"
)

// scene has a session 1 that changes, a session 2 that looks; and
//
//	/a      x, for everybody
//	/a/k    its kid
//	/s      read by nobody, changed by everybody
func scene(t *testing.T) pair {
	t.Helper()
	p := newPair(t, 2)
	p.does(1, create("/a", "x"))
	p.does(1, create("/a/k", ""))
	r := create("/s", "")
	r.Acl = rows(30, "world")
	p.does(1, r)
	return p
}

// fates are what may happen to a path, and whom of the kinds of watches on it that meets: WatchData, WatchExist, WatchKids.
func fates(at string) []fate {
	return []fate{
		{[]api.Request{set(at, "new")}, 3, [3]bool{true, true, false}},
		{[]api.Request{create(at+"/new", "")}, 4, [3]bool{false, false, true}},
		{[]api.Request{remove(at)}, 2, [3]bool{true, true, true}},
	}
}

type fate struct {
	does  []api.Request
	event int
	meets [3]bool
}

// TestQ3Watches: each kind of request, of each kind of path, with Watch and without: which watch it lays is told by what it is told of.
func TestQ3Watches(t *testing.T) {
	for _, c := range []struct {
		kind int
		at   string
		err  api.Errno
		laid int // 0: none
	}{
		{9, "/a", 0, 1}, {10, "/a", 0, 1}, {11, "/a", 0, 3}, {12, "/a", 0, 0},
		{9, "/s", 65, 0}, {10, "/s", 0, 1}, {11, "/s", 65, 0}, {12, "/s", 65, 0},
		{9, "/q", 60, 0}, {10, "/q", 60, 2}, {11, "/q", 60, 0}, {12, "/q", 60, 0},
		{9, "/a/", 40, 0}, {10, "/a/", 40, 0}, {11, "", 40, 0}, {10, "a", 40, 0},
		{1, "/a", 61, 0}, {1, "/n", 0, 0}, {2, "/n", 60, 0}, {3, "/a", 0, 0}, {4, "/a", 0, 0}, {5, "/a", 110, 0},
		{6, "/a", 1, 0}, {7, "/a", 0, 0}, {13, "/a", 50, 0}, {14, "/a", 0, 0}, {15, "/a", 0, 0}, {16, "/a", 110, 0}, {0, "/q", 110, 0},
	} {
		for _, wish := range []bool{true, false} {
			for i := range fates(c.at) {
				p := scene(t)
				p.does(1, remove("/a/k"))
				r := api.Request{Kind: c.kind, Path: c.at, Xid: 4, Acl: all(), Version: -1, Watch: wish}
				with, without := p.errs(2, r, c.err), api.Reply{}
				if c.kind >= 9 {
					r.Watch = false
					without = p.errs(2, r, c.err)
				}
				if c.kind >= 9 && !sameReply(with, without) {
					t.Errorf("%d of %q: %s with Watch, %s without", c.kind, c.at, brief(with), brief(without))
				}
				p.laid(c.at, c.laid, wish, i)
			}
		}
	}
}

// laid holds that a watch of a kind, or none, is on a path, by what the session 2 is told of the path's fate.
func (p pair) laid(at string, kind int, wish bool, i int) {
	p.t.Helper()
	f := fates(at)[i]
	want := kind > 0 && wish
	if at == "/q" { // it is not there
		f = fate{[]api.Request{create(at, "")}, 1, [3]bool{false, true, false}}
	}
	for _, r := range f.does {
		p.call(1, r)
	}
	if want {
		want = f.meets[kind-1]
	}
	l := p.events(2)
	if want && (len(l) != 1 || l[0].Kind != f.event || l[0].Path != at) || !want && len(l) != 0 {
		p.t.Errorf("a watch of the kind %d on %q, fate %d: told %s", kind, at, i, brief(l))
	}
}

// TestQ3Ping tells nothing, and does nothing with what it is given.
func TestQ3Ping(t *testing.T) {
	p := scene(t)
	p.unchanged(func() {
		r := api.Request{Kind: 15, Xid: -9, Path: "/a", Data: "x", Acl: all(), Flags: 3, Version: 4, Watch: true, Subs: []api.Request{create("/n", "")}, Armed: []api.Armed{{Kind: 1, Path: "/a"}}}
		p.nothing(2, r, api.OK)
	})
	p.does(1, set("/a", "y"))
	p.tells(2)
	p.nothing(2, api.Request{Kind: 15}, api.OK)
}

// TestQ3Reads: each tells what its kind does, with the tree's zxid.
func TestQ3Reads(t *testing.T) {
	p := scene(t)
	stat := api.Stat{Czxid: 1<<32 + 3, Mzxid: 1<<32 + 3, Pzxid: 1<<32 + 4, Cversion: 1, Length: 1, Kids: 1}
	for _, c := range []struct {
		kind int
		want api.Reply
	}{
		{9, api.Reply{Data: "x", Stat: stat}},
		{10, api.Reply{Stat: stat}},
		{11, api.Reply{Kids: []string{"k"}, Stat: stat}},
		{12, api.Reply{Acl: all(), Stat: stat}},
	} {
		for _, xid := range []int{0, 1, -1, 1 << 62} {
			c.want.Xid, c.want.Zxid = xid, 1<<32+5
			if got := p.call(2, api.Request{Kind: c.kind, Path: "/a", Xid: xid}); !sameReply(got, c.want) {
				t.Errorf("kind %d: %s, want %s", c.kind, brief(got), brief(c.want))
			}
		}
	}
	p.does(1, api.Request{Kind: 7})
	if r := p.does(2, api.Request{Kind: 9, Path: "/a"}); r.Zxid != 1<<32+6 {
		t.Errorf("behind a sync: %s", brief(r))
	}
}

// TestQ3WatchesFull: the table refuses, and the answer has nothing but its error.
func TestQ3WatchesFull(t *testing.T) {
	p := scene(t)
	for i := range 64 {
		p.errs(2, watched(10, fmt.Sprintf("/n%02d", i)), api.ErrTreeNone)
	}
	p.unchanged(func() {
		for _, r := range []api.Request{watched(9, "/a"), watched(10, "/a"), watched(11, "/a"), watched(10, "/q"), watched(10, "/s")} {
			p.nothing(2, r, api.ErrSessionFull)
		}
		// Where no watch would be laid none is refused.
		for _, c := range []struct {
			r api.Request
			e api.Errno
		}{
			{watched(12, "/a"), 0}, {watched(9, "/q"), 60}, {watched(9, "/s"), 65}, {watched(10, "/a/"), 40}, {watched(16, "/a"), 110},
			{api.Request{Kind: 9, Path: "/a"}, 0}, {api.Request{Kind: 10, Path: "/q"}, 60}, {watched(10, "/n63"), 60}, {watched(10, "/n00"), 60},
		} {
			p.errs(2, c.r, c.e)
		}
	})
	p.does(1, watched(9, "/a")) // another session has room
	p.does(1, create("/n07", ""))
	p.tells(2, event(1, "/n07", 6))
	p.does(2, watched(11, "/a"))
	p.nothing(2, watched(9, "/a"), api.ErrSessionFull)
	p.does(1, create("/a/new", ""))
	p.tells(2, event(4, "/a", 7))
	p.order()
}

// TestQ3OneWatch: what is armed and what is laid by a reading of the same kind is one watch, for which there is room.
func TestQ3OneWatch(t *testing.T) {
	p := scene(t)
	p.does(2, arm(api.Armed{Kind: 1, Path: "/a", Czxid: 1<<32 + 3, Mzxid: 1<<32 + 3}, api.Armed{Kind: 3, Path: "/a", Czxid: 1<<32 + 3, Pzxid: 1<<32 + 4}, api.Armed{Kind: 2, Path: "/q"}))
	for i := range 61 {
		p.errs(2, watched(10, fmt.Sprintf("/n%02d", i)), api.ErrTreeNone)
	}
	p.nothing(2, watched(10, "/more"), api.ErrSessionFull)
	for _, kind := range []int{9, 10, 11} {
		p.does(2, watched(kind, "/a"))
	}
	p.errs(2, watched(10, "/q"), api.ErrTreeNone)
	p.tells(2)
}

// TestQ4Events: in their order, till they are asked for; each session its own.
func TestQ4Events(t *testing.T) {
	p := scene(t)
	p.open(10)
	for _, at := range []string{"/", "/a"} {
		for kind := 9; kind <= 11; kind++ {
			p.does(2, watched(kind, at))
		}
	}
	p.errs(2, watched(10, "/q"), api.ErrTreeNone)
	p.does(3, watched(9, "/a"))
	p.does(2, set("/a", "y"))     // 7
	p.does(3, set("/a", "z"))     // 8: nobody is told again
	p.does(1, create("/a/l", "")) // 9
	p.does(1, api.Request{Kind: 6, Subs: []api.Request{create("/q", ""), remove("/q"), set("/", "r")}})
	want := []api.Event{event(3, "/a", 7), event(4, "/a", 9), event(1, "/q", 10), event(4, "/", 10), event(3, "/", 10)}
	p.unchanged(func() {})
	p.tells(3, event(3, "/a", 7))
	p.tells(2, want...)
	for _, id := range append(numbers(), 2, 3) {
		p.tells(id)
	}
	p.does(1, set("/", "s"))
	p.tells(2)
	// One event is told once, whichever watches it meets.
	for kind := 9; kind <= 11; kind++ {
		p.does(2, watched(kind, "/a"))
	}
	p.does(1, remove("/a/k"))
	p.does(1, remove("/a/l"))
	for kind := 9; kind <= 11; kind++ {
		p.does(2, watched(kind, "/a"))
	}
	p.does(1, remove("/a"))
	p.tells(2, event(4, "/a", 12), event(2, "/a", 14))
	p.order()
}

// TestQ4OfAnEnd: what a session's end does is told the others, by rising zxids; not itself.
func TestQ4OfAnEnd(t *testing.T) {
	p := newPair(t, 3)
	for _, at := range []string{"/a", "/b"} {
		p.does(1, owned(at))
		for id := 1; id <= 3; id++ {
			p.does(id, watched(9, at))
			p.does(id, watched(11, "/"))
		}
	}
	p.tells(3, event(4, "/", 5))
	p.expire(1)
	p.tells(1)
	for id := 2; id <= 3; id++ {
		l := []api.Event{event(2, "/b", 6), event(4, "/", 6), event(2, "/a", 6)}
		if id == 2 {
			l = append([]api.Event{event(4, "/", 5)}, l...)
		}
		p.tells(id, l...)
	}
	p.tells(2)
}

// TestQ4Own: a session is told of what it does itself.
func TestQ4Own(t *testing.T) {
	p := scene(t)
	p.does(1, watched(9, "/a"))
	p.does(1, set("/a", "y"))
	p.tells(1, event(3, "/a", 6))
	p.does(1, watched(9, "/a"))
	p.call(1, api.Request{Kind: 3, Path: "/a", Version: 77})
	p.tells(1)
	p.does(1, set("/a", "y"))
	p.tells(1, event(3, "/a", 8))
	if l := p.x.Events(1); len(l) != 0 || !slices.Equal(l, p.m.events(1)) {
		t.Errorf("again: %s", brief(l))
	}
}
