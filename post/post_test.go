package post_test

import (
	"fmt"
	"math"
	"math/rand"
	"runtime"
	"slices"
	"strings"
	"testing"

	"arboretum/api"
	"arboretum/post"
)

// short tells a packet, but of a long text how long it is alone.
func short(q api.Packet) string {
	if n := len(q.Data); n > 60 {
		q.Data = fmt.Sprint(n, " bytes")
	}
	return fmt.Sprintf("%+v", q)
}

func TestExample(t *testing.T) {
	a, b, c := api.Packet{From: 1, To: 2}, api.Packet{From: 1, To: 3}, api.Packet{From: 3, To: 1, Kind: 2, Seq: 1, Data: "x"}
	p := made(t)
	p.Send(a, b, c)
	has(t, p, []api.Packet{a, b, c})
	got, is := p.Take(1)
	answer(t, "Take", 1, got, is, b, true)
	has(t, p, []api.Packet{a, c})
	got, is = p.Copy(0)
	answer(t, "Copy", 0, got, is, a, true)
	has(t, p, []api.Packet{a, c})
	got, is = p.Take(2)
	answer(t, "Take", 2, got, is, api.Packet{}, false)
	has(t, p, []api.Packet{a, c})
	if n := p.Drop(2); n != 1 {
		t.Errorf("Drop: %d", n)
	}
	has(t, p, []api.Packet{c})
}

func TestO1New(t *testing.T) {
	x := newPair(t)
	x.same()
	for _, n := range edges {
		x.take(n)
		x.drop(n)
	}
	x.same()
	x.send()
	x.same()
}

// TestO1Send: in whatever lots they are sent, they are under way in their order.
func TestO1Send(t *testing.T) {
	for _, lots := range [][]int{{1}, {2}, {3}, {0, 1, 0, 2, 0}, {1, 1, 1}, {3, 1, 2}, {1, 7, 0, 30}, {100, 1, 100}, {200, 200}} {
		x, first := newPair(t), 0
		for _, n := range lots {
			x.send(numbered(first, n)...)
			first += n
			has(t, x.p, numbered(0, first))
		}
		x.same()
	}
}

// TestO1Most: of more than 400 the last 400 are under way, whether they are sent at once or one by one.
func TestO1Most(t *testing.T) {
	for _, had := range []int{0, 1, 2, 199, 398, 399, 400} {
		for _, more := range []int{0, 1, 2, 199, 201, 398, 399, 400, 401, 402, 799, 800, 801, 1300} {
			first := max(0, had+more-400)
			want := numbered(first, had+more-first)
			p := made(t)
			p.Send(numbered(0, had)...)
			p.Send(numbered(had, more)...)
			has(t, p, want)
			p = made(t)
			for _, q := range numbered(0, had+more) {
				p.Send(q)
			}
			has(t, p, want)
		}
	}
}

// TestO1FirstLost: which one is lost is told by the order alone, step by step.
func TestO1FirstLost(t *testing.T) {
	x := filled(t, 400)
	for seq := 400; seq < 1300; seq++ {
		x.send(numbered(seq, 1)...)
		x.same()
		first, is := x.p.Copy(0)
		answer(t, "Copy", 0, first, is, numbered(seq-399, 1)[0], true)
	}
}

// TestO1Room: where some were taken or dropped, as many may be sent ahead of one being lost.
func TestO1Room(t *testing.T) {
	for _, n := range []int{0, 1, 200, 398, 399} {
		for room := 1; room <= 3; room++ {
			x := filled(t, 400)
			for i := range room {
				x.take(max(0, n-i))
			}
			first, _ := x.p.Copy(0)
			x.send(numbered(400, room)...)
			x.same()
			got, is := x.p.Copy(0)
			answer(t, "Copy", 0, got, is, first, true)
			x.send(numbered(500, 1)...)
			x.same()
			if got, _ := x.p.Copy(0); got == first {
				t.Errorf("Take(%d): there are %d, and the first one stays", n, x.p.Len())
			}
		}
	}
	for _, address := range []int{1, 2, 3, 11, 12, 13, 14} {
		x := filled(t, 400)
		x.drop(address)
		left := x.p.Len()
		if left == 400 {
			t.Errorf("Drop(%d): nothing was lost", address)
		}
		x.send(numbered(400, 400-left)...)
		x.same()
		if x.p.Len() != 400 {
			t.Errorf("Drop(%d): there are %d", address, x.p.Len())
		}
		x.send(numbered(900, 2)...)
		x.same()
	}
}

// strange are packets of which nobody would send one.
func strange() []api.Packet {
	l := []api.Packet{{}, {}, {From: 1, To: 1}, {From: 1, To: 1}, {From: 9, To: 99, Kind: 7}}
	for _, n := range edges {
		l = append(l, api.Packet{From: n}, api.Packet{To: n}, api.Packet{Kind: n}, api.Packet{Inc: n}, api.Packet{Peer: n}, api.Packet{Seq: n}, api.Packet{Ack: n})
		l = append(l, api.Packet{From: n, To: n, Kind: n, Inc: n, Peer: n, Seq: n, Ack: n, Data: "x"})
	}
	for _, s := range []string{"x", "\x00", "\xff\xfe", "é\n", strings.Repeat("a", api.MaxText+1), strings.Repeat("b", 1<<20)} {
		l = append(l, api.Packet{From: 1, To: 2, Kind: 2, Inc: 3, Peer: 4, Seq: 5, Ack: 6, Data: s})
	}
	return l
}

func TestO1AnyPacket(t *testing.T) {
	l := strange()
	p := made(t)
	p.Send(l...)
	has(t, p, l)
	for n, q := range l {
		got, is := p.Take(0)
		answer(t, "Take", 0, got, is, q, true)
		lists(t, "All", p.All(), l[n+1:])
	}
	x := newPair(t)
	x.send(l...)
	for _, address := range edges {
		x.drop(address)
		x.same()
	}
}

// TestO1Alike: packets that are alike are each under way by itself.
func TestO1Alike(t *testing.T) {
	x := newPair(t)
	q := api.Packet{From: 1, To: 2, Kind: 1, Data: "x"}
	for range 3 {
		x.send(q, q, api.Packet{}, q)
	}
	x.same()
	for _, n := range []int{11, 0, 1, 5, 5, 6, 3} {
		x.take(n)
		x.same()
	}
	x.send(q)
	x.same()
	x.drop(2)
	x.same()
}

// TestO2Take: from each place of each small post, and of a full one.
func TestO2Take(t *testing.T) {
	for _, size := range []int{0, 1, 2, 3, 4, 5, 50, 400} {
		for n := -3; n <= size+3; n++ {
			x := filled(t, size)
			x.take(n)
			has(t, x.p, x.m.packets())
			x.take(n)
			has(t, x.p, x.m.packets())
		}
	}
}

// TestO2TakeAll: till none is left, from the front, from the end, and from within.
func TestO2TakeAll(t *testing.T) {
	for _, place := range []func(left int) int{
		func(left int) int { return 0 },
		func(left int) int { return left - 1 },
		func(left int) int { return left / 2 },
		func(left int) int { return left * 2 / 3 },
	} {
		x := filled(t, 400)
		for left := 400; left > 0; left-- {
			x.take(place(left))
			if x.p.Len() != left-1 {
				t.Fatalf("Take(%d) of %d: %d are left", place(left), left, x.p.Len())
			}
			lists(t, "All", x.p.All(), x.m.packets())
		}
		x.take(0)
		x.same()
		x.send(numbered(400, 3)...)
		x.same()
	}
}

// TestO2CopyStays: a copy changes nothing, however often it is asked for.
func TestO2CopyStays(t *testing.T) {
	for _, size := range []int{1, 2, 3, 400} {
		x := filled(t, size)
		for n := range size {
			for range 3 {
				x.copy(n)
			}
		}
		has(t, x.p, numbered(0, size))
		got, is := x.p.Copy(size - 1)
		answer(t, "Copy", size-1, got, is, numbered(size-1, 1)[0], true)
		got, is = x.p.Take(size - 1)
		answer(t, "Take", size-1, got, is, numbered(size-1, 1)[0], true)
		got, is = x.p.Copy(size - 1)
		answer(t, "Copy", size-1, got, is, api.Packet{}, false)
	}
}

// TestO2NoSuch: of what is not there a zero packet is told, and nothing is changed.
func TestO2NoSuch(t *testing.T) {
	for _, size := range []int{0, 1, 2, 3, 399, 400} {
		x := filled(t, size)
		for _, n := range append([]int{-2, -size, -size - 1, size, size + 1, size - 1<<32, size + 1<<32, math.MinInt + size, math.MaxInt - size}, edges...) {
			if n >= 0 && n < size {
				continue
			}
			for range 2 {
				got, is := x.p.Take(n)
				answer(t, "Take", n, got, is, api.Packet{}, false)
				got, is = x.p.Copy(n)
				answer(t, "Copy", n, got, is, api.Packet{}, false)
			}
		}
		has(t, x.p, numbered(0, size))
	}
}

func TestO2Drop(t *testing.T) {
	l := []api.Packet{{From: 1, To: 2, Seq: 1}, {From: 2, To: 1, Seq: 2}, {From: 3, To: 4, Seq: 3}, {From: 2, To: 2, Seq: 4}, {From: 4, To: 2, Seq: 5}, {From: 1, To: 3, Seq: 6}, {From: 0, To: -1, Seq: 7}}
	for _, c := range []struct{ address, count int }{{1, 3}, {2, 4}, {3, 2}, {4, 2}, {0, 1}, {-1, 1}, {5, 0}, {7, 0}, {-2, 0}, {math.MinInt, 0}, {math.MaxInt, 0}, {1 << 32, 0}, {1<<32 + 1, 0}} {
		x := newPair(t)
		x.send(l...)
		if n := x.p.Drop(c.address); n != c.count {
			t.Errorf("Drop(%d): %d, want %d", c.address, n, c.count)
		}
		x.m.drop(c.address)
		x.same()
		x.drop(c.address)
		x.same()
		for _, q := range x.p.All() {
			if q.To == c.address || q.From == c.address {
				t.Errorf("Drop(%d): %s is left", c.address, short(q))
			}
		}
	}
}

// TestO2DropAddresses: only a packet's From and To are its addresses.
func TestO2DropAddresses(t *testing.T) {
	x := newPair(t)
	x.send(api.Packet{From: 1, To: 2, Kind: 5, Inc: 5, Peer: 5, Seq: 5, Ack: 5, Data: "5"})
	x.drop(5)
	x.same()
	if x.p.Len() != 1 {
		t.Error("Drop(5): a packet of nobody's was lost")
	}
	x.drop(0)
	x.same()
}

// TestO2DropAll: what was dropped from anywhere leaves the others in their order.
func TestO2DropAll(t *testing.T) {
	x := filled(t, 400)
	for _, c := range []struct{ address, count, left int }{{2, 133, 267}, {11, 67, 200}, {4, 0, 200}, {13, 67, 133}, {1, 67, 66}, {2, 0, 66}, {3, 66, 0}, {3, 0, 0}} {
		if n := x.p.Drop(c.address); n != c.count || x.p.Len() != c.left {
			t.Errorf("Drop(%d): %d, and %d are left, want %d, %d", c.address, n, x.p.Len(), c.count, c.left)
		}
		x.m.drop(c.address)
		x.same()
	}
	for range 3 {
		x.send(api.Packet{From: 1, To: 2})
		x.drop(1)
		x.send(api.Packet{From: 1, To: 2})
		x.drop(2)
		x.same()
	}
}

// account is what is known of a post from what it told: all that was sent, each at its number's place, and which of them are gone.
type account struct {
	t    *testing.T
	p    *post.Post
	sent []api.Packet
	gone map[int]bool
}

func (a *account) lose(l []api.Packet) {
	for _, q := range l {
		if a.gone[q.Seq] {
			a.t.Fatalf("%s is gone twice", short(q))
		}
		a.gone[q.Seq] = true
	}
}

func (a *account) send(n int) {
	was, l := a.p.All(), numbered(len(a.sent), n)
	a.sent = append(a.sent, l...)
	a.p.Send(l...)
	all := append(was, l...)
	a.lose(all[:max(0, len(all)-400)])
}

func (a *account) drop(address int) {
	was := a.p.All()
	n := a.p.Drop(address)
	l := slices.DeleteFunc(was, func(q api.Packet) bool { return q.From != address && q.To != address })
	if n != len(l) {
		a.t.Fatalf("Drop(%d): %d, want %d", address, n, len(l))
	}
	a.lose(l)
}

func (a *account) take(n int) {
	q, is := a.p.Take(n)
	if !is || q != a.sent[q.Seq] {
		a.t.Fatalf("Take(%d): %s, %t", n, short(q), is)
	}
	a.lose([]api.Packet{q})
}

// right asks whether what is under way is as it was sent, in its order, and everything else is gone.
func (a *account) right() {
	last := -1
	for _, q := range a.p.All() {
		if q != a.sent[q.Seq] || a.gone[q.Seq] || q.Seq <= last {
			a.t.Fatalf("All: %s behind %d", short(q), last)
		}
		last = q.Seq
	}
	if len(a.sent) != len(a.gone)+a.p.Len() {
		a.t.Fatalf("%d were sent, %d are gone, %d are under way", len(a.sent), len(a.gone), a.p.Len())
	}
}

// TestO3: each packet that was sent is under way, was taken, or was lost.
func TestO3(t *testing.T) {
	x := rand.New(rand.NewSource(3))
	for range 60 {
		a, most := account{t, made(t), nil, map[int]bool{}}, 1+x.Intn(500)
		for range 60 {
			switch x.Intn(5) {
			case 0, 1:
				a.send(x.Intn(most))
			case 2:
				a.drop(1 + x.Intn(14))
			default:
				for n := x.Intn(40); n < a.p.Len(); n += 1 + x.Intn(40) {
					a.take(n)
				}
			}
			a.right()
		}
	}
}

// TestAnything: any calls, right and wrong, in any order.
func TestAnything(t *testing.T) {
	r := rand.New(rand.NewSource(14))
	some := func(n int) int {
		if r.Intn(12) == 0 {
			return edges[r.Intn(len(edges))]
		}
		return r.Intn(n)
	}
	packet := func() api.Packet {
		return api.Packet{From: some(20), To: some(20), Kind: some(3), Inc: some(9), Peer: some(9), Seq: some(99), Ack: some(99), Data: strings.Repeat("x", r.Intn(4))}
	}
	full := 0
	for range 150 {
		x, lot := newPair(t), 1+r.Intn(60)
		for range 80 {
			switch r.Intn(6) {
			case 0, 1:
				l := []api.Packet{}
				for range r.Intn(lot) {
					l = append(l, packet())
				}
				x.send(l...)
			case 2, 3:
				x.take(some(1 + x.p.Len()*5/4))
			case 4:
				x.copy(some(1 + x.p.Len()*5/4))
			default:
				if r.Intn(5) == 0 {
					x.drop(some(20))
				}
			}
			lists(t, "All", x.p.All(), x.m.packets())
			if x.p.Len() == 400 {
				full++
			}
		}
		x.same()
	}
	if full < 100 {
		t.Errorf("only %d full posts", full)
	}
}

// TestHandedIn: what is handed in is neither written into nor kept, nor is what stands behind its length.
func TestHandedIn(t *testing.T) {
	for _, size := range []int{1, 3, 400, 500} {
		for _, had := range []int{0, 2, 399, 400} {
			x := filled(t, had)
			room := numbered(1000, size+5)
			l := room[:size]
			x.send(l...)
			x.take(0)
			x.drop(2)
			x.send(numbered(2000, 3)...)
			lists(t, "what was handed in", room, numbered(1000, size+5))
			x.send(l...)
			for i := range room {
				room[i] = api.Packet{From: -1, To: -1, Data: "written over"}
			}
			x.same()
		}
	}
}

// TestNewMemory: what was told is its owner's: no other answer changes by it.
func TestNewMemory(t *testing.T) {
	for _, size := range []int{0, 1, 3, 399, 400} {
		x := filled(t, size+1)
		x.take(0)
		x.send(numbered(700, 0)...)
		a, b := x.p.All(), x.p.All()
		want := slices.Clone(x.m.packets())
		for i := range a {
			a[i] = api.Packet{From: -1}
		}
		a = append(a, api.Packet{From: -2})
		for i := range a[:cap(a)] {
			a[:cap(a)][i] = api.Packet{From: -3}
		}
		lists(t, "All", b, want)
		x.same()
		x.send(numbered(800, 5)...)
		x.take(0)
		x.drop(3)
		lists(t, "All", b, want)
		for _, q := range a[:cap(a)] {
			if q.From != -3 {
				t.Fatalf("what was told is written into: %s", short(q))
			}
		}
		x.same()
	}
}

func TestApart(t *testing.T) {
	a, b := filled(t, 5), filled(t, 400)
	c := newPair(t)
	a.drop(1)
	b.send(numbered(400, 7)...)
	b.take(3)
	c.send(b.p.All()...)
	c.drop(2)
	for _, x := range []pair{a, b, c} {
		x.same()
	}
	var l []*post.Post
	for range 20 {
		l = append(l, filled(t, 9).p)
	}
	for _, p := range l {
		has(t, p, numbered(0, 9))
	}
}

func heap() uint64 {
	var m runtime.MemStats
	runtime.GC()
	runtime.ReadMemStats(&m)
	return m.HeapAlloc
}

// large is n packets of long texts, each of its own.
func large(n int) []api.Packet {
	l := numbered(0, n)
	for i := range l {
		l[i].Data = strings.Repeat("x", 1<<15)
	}
	return l
}

// TestKeepsLittle: what is under way no more is not kept, however it went.
func TestKeepsLittle(t *testing.T) {
	for name, lose := range map[string]func(p *post.Post){
		"taken from the front": func(p *post.Post) {
			for range 400 {
				p.Take(0)
			}
		},
		"taken from the end": func(p *post.Post) {
			for n := 399; n >= 0; n-- {
				p.Take(n)
			}
		},
		"dropped": func(p *post.Post) {
			p.Drop(1)
			p.Drop(2)
			p.Drop(3)
		},
		"lost": func(p *post.Post) {
			p.Send(numbered(0, 400)...)
		},
		"lost one by one": func(p *post.Post) {
			for range 400 {
				p.Send(api.Packet{})
			}
		},
	} {
		p := made(t)
		before := heap()
		p.Send(large(400)...)
		if there := heap(); there < before+8<<20 {
			t.Errorf("%s: %d bytes were kept, then %d: the texts are not there", name, before, there)
		}
		lose(p)
		if behind := heap(); behind > before+1<<20 {
			t.Errorf("%s: %d bytes were kept, then %d", name, before, behind)
		}
		runtime.KeepAlive(p)
	}
}

// TestKeepsNoMore: what a post keeps hangs on what is under way, not on all that was sent.
func TestKeepsNoMore(t *testing.T) {
	p := made(t)
	p.Send(numbered(0, 400)...)
	before := heap()
	for i := range 100000 {
		p.Send(numbered(i, 3)...)
		p.Take(i % 400)
	}
	for range 20 {
		p.Send(numbered(0, 20000)...)
	}
	if behind := heap(); behind > before+1<<20 {
		t.Errorf("%d bytes were kept, then %d", before, behind)
	}
	runtime.KeepAlive(p)
}
