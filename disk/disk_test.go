package disk_test

import (
	"math"
	"math/rand"
	"slices"
	"strings"
	"testing"

	"arboretum/api"
	"arboretum/disk"
)

var (
	x, y, z = full("x"), full("y"), full("z")
	// steps are the bytes 128 to 191: no two of them are the same, so a tear at a wrong place shows.
	steps = stepsFrom(128)
)

func stepsFrom(first int) string {
	l := make([]byte, 64)
	for i := range l {
		l[i] = byte(first + i)
	}
	return string(l)
}

func readsAs(t *testing.T, d *disk.Disk, n int, want string) {
	t.Helper()
	if got, e := d.Read(n); got != want || e != api.OK {
		t.Errorf("Read(%d): %q, %d, want %q", n, got, e, want)
	}
}

func pendingAre(t *testing.T, d *disk.Disk, want ...int) {
	t.Helper()
	if got := d.Pending(); !slices.Equal(got, want) {
		t.Errorf("Pending: %v, want %v", got, want)
	}
}

func TestExamples(t *testing.T) {
	d := made(t, 16)
	told(t, "Write", d.Write(3, x), api.OK)
	pendingAre(t, d, 3)
	d.Crash(nil)
	readsAs(t, d, 3, zeros)
	told(t, "Write", d.Write(3, x), api.OK)
	told(t, "Sync", d.Sync(), api.OK)
	told(t, "Write", d.Write(3, y), api.OK)
	told(t, "Write", d.Write(1, y), api.OK)
	d.Crash([]int{1, 14})
	readsAs(t, d, 1, y)
	readsAs(t, d, 3, strings.Repeat("y", 4)+strings.Repeat("x", 60))
	told(t, "Arm", d.Arm(2), api.OK)
	told(t, "Write", d.Write(0, x), api.OK)
	told(t, "Sync", d.Sync(), api.ErrDead)
	pendingAre(t, d, 0)
	if d.Acts() != 7 {
		t.Errorf("Acts: %d", d.Acts())
	}
	d.Crash(nil)
	told(t, "Write of no sector", d.Write(16, x), api.ErrDiskSector)
	told(t, "Write of one byte", d.Write(0, "x"), api.ErrDiskSector)
	_, e := disk.New(15)
	told(t, "New(15)", e, api.ErrArg)
}

func TestD1Sizes(t *testing.T) {
	for _, n := range []int{16, 17, 63, 64, 65, 1000, 32767, 32768} {
		if d := made(t, n); d.Size() != n {
			t.Errorf("New(%d): Size %d", n, d.Size())
		}
	}
	for _, n := range []int{math.MinInt, -32768, -16, -1, 0, 1, 15, 32769, 65536, 1<<32 + 16, math.MaxInt} {
		if d, e := disk.New(n); d != nil || e != api.ErrArg {
			t.Errorf("New(%d): %v, %d", n, d, e)
		}
	}
}

func TestD1New(t *testing.T) {
	for _, size := range []int{16, 100, 32768} {
		d := made(t, size)
		for n := range size {
			readsAs(t, d, n, zeros)
		}
		pendingAre(t, d)
		if d.Dead() || d.Acts() != 0 {
			t.Errorf("a new disk: dead %t, %d acts", d.Dead(), d.Acts())
		}
	}
}

func TestD1NotArmed(t *testing.T) {
	d := made(t, 16)
	for k := range 1000 {
		told(t, "Write", d.Write(k%16, x), api.OK)
		told(t, "Sync", d.Sync(), api.OK)
	}
	if d.Dead() || d.Acts() != 2000 {
		t.Errorf("dead %t, %d acts", d.Dead(), d.Acts())
	}
}

func TestD2ReadsWhatWasWrittenLast(t *testing.T) {
	for _, n := range []int{0, 1, 15, 16, 32766, 32767} {
		d := made(t, 32768)
		for _, s := range []string{x, y, steps, zeros, z} {
			told(t, "Write", d.Write(n, s), api.OK)
			readsAs(t, d, n, s)
		}
		told(t, "Sync", d.Sync(), api.OK)
		readsAs(t, d, n, z)
		for _, other := range []int{2, n - 1, n + 1} {
			if d.Size() > other && other >= 0 {
				readsAs(t, d, other, zeros)
			}
		}
	}
}

func TestD2EveryByte(t *testing.T) {
	d := made(t, 16)
	for k := range 4 {
		told(t, "Write", d.Write(k, stepsFrom(64*k)), api.OK)
	}
	for k := range 4 {
		readsAs(t, d, k, stepsFrom(64*k))
	}
}

// outside are the numbers of sectors that a disk of 16 has not.
var outside = []int{math.MinInt, -1 << 32, -16, -1, 16, 17, 1 << 32, math.MaxInt}

func TestD2Errors(t *testing.T) {
	d := made(t, 16)
	for _, n := range outside {
		if s, e := d.Read(n); s != "" || e != api.ErrDiskSector {
			t.Errorf("Read(%d): %q, %d", n, s, e)
		}
	}
	die(t, d)
	for _, n := range append([]int{0, 3, 15}, outside...) {
		if s, e := d.Read(n); s != "" || e != api.ErrDead {
			t.Errorf("Read(%d) of a dead disk: %q, %d", n, s, e)
		}
	}
}

// die lets a disk that is alive die, at a Sync.
func die(t *testing.T, d *disk.Disk) {
	t.Helper()
	told(t, "Arm", d.Arm(1), api.OK)
	told(t, "Sync", d.Sync(), api.ErrDead)
	if !d.Dead() {
		t.Fatal("it has not died")
	}
}

// wrongWrites are those that a disk of 16 sectors refuses.
func wrongWrites() map[write]bool {
	all := map[write]bool{}
	for _, n := range outside {
		all[write{n, x}] = true
		all[write{n, "x"}] = true
	}
	for _, l := range []int{0, 1, 32, 63, 65, 128, 320, 4096} {
		all[write{0, strings.Repeat("x", l)}] = true
		all[write{15, strings.Repeat("x", l)}] = true
	}
	return all
}

func TestD3WriteErrors(t *testing.T) {
	p := newPair(t, 16)
	p.write(0, y)
	p.sync()
	p.write(15, y)
	for w := range wrongWrites() {
		told(t, "a wrong Write", p.d.Write(w.sector, w.bytes), api.ErrDiskSector)
	}
	p.same()
	p.arm(1)
	p.write(7, z)
	for w := range wrongWrites() {
		told(t, "a wrong Write of a dead disk", p.d.Write(w.sector, w.bytes), api.ErrDead)
	}
	told(t, "a Write of a dead disk", p.d.Write(3, x), api.ErrDead)
	p.same()
	p.crash(1, 1)
	p.same()
}

func TestD3WriteIsPending(t *testing.T) {
	d := made(t, 16)
	for _, n := range []int{15, 0, 7, 7, 0} {
		told(t, "Write", d.Write(n, x), api.OK)
	}
	pendingAre(t, d, 0, 7, 15)
	d.Crash(nil)
	for n := range 16 {
		readsAs(t, d, n, zeros)
	}
}

func TestD3SameBytesArePending(t *testing.T) {
	d := made(t, 16)
	told(t, "Write", d.Write(2, zeros), api.OK)
	pendingAre(t, d, 2)
	told(t, "Write", d.Write(4, x), api.OK)
	told(t, "Write", d.Write(4, zeros), api.OK)
	pendingAre(t, d, 2, 4)
	d.Crash([]int{0, 1})
	readsAs(t, d, 2, zeros)
	readsAs(t, d, 4, zeros)
}

func TestD3Sync(t *testing.T) {
	d := made(t, 16)
	told(t, "Sync of nothing", d.Sync(), api.OK)
	told(t, "Write", d.Write(3, x), api.OK)
	told(t, "Write", d.Write(9, y), api.OK)
	told(t, "Sync", d.Sync(), api.OK)
	pendingAre(t, d)
	d.Crash([]int{0, 0})
	readsAs(t, d, 3, x)
	readsAs(t, d, 9, y)
	if d.Acts() != 4 {
		t.Errorf("Acts: %d, want 4", d.Acts())
	}
}

func TestD3SyncOfADeadDisk(t *testing.T) {
	d := made(t, 16)
	told(t, "Write", d.Write(3, x), api.OK)
	die(t, d)
	told(t, "Sync", d.Sync(), api.ErrDead)
	pendingAre(t, d, 3)
	if d.Acts() != 2 {
		t.Errorf("Acts: %d, want 2", d.Acts())
	}
	d.Crash(nil)
	readsAs(t, d, 3, zeros)
}

func TestD3OldBytesAreThoseOfTheSync(t *testing.T) {
	for fate, want := range map[int]string{0: x, 1: z, 2: x, 2 + 3*10: z[:10] + x[10:]} {
		d := made(t, 16)
		told(t, "Write", d.Write(5, x), api.OK)
		told(t, "Sync", d.Sync(), api.OK)
		told(t, "Write", d.Write(5, y), api.OK)
		told(t, "Write", d.Write(5, z), api.OK)
		d.Crash([]int{fate})
		readsAs(t, d, 5, want)
	}
}

func TestD4DiesAtTheNthAct(t *testing.T) {
	for n := 1; n <= 12; n++ {
		for shift := range 3 {
			p := newPair(t, 16)
			p.arm(n)
			for k := range n + 3 {
				if (k+shift)%3 == 2 {
					p.sync()
				} else {
					p.write(k%16, x)
				}
				if p.d.Dead() != (k+1 >= n) {
					t.Errorf("Arm(%d): behind %d acts: dead %t", n, k+1, p.d.Dead())
				}
				p.sameTold()
			}
			p.crash(1, 5, 0, 1)
			p.same()
		}
	}
}

// sameTold holds against the model what is told of a dead disk, too.
func (p pair) sameTold() {
	p.t.Helper()
	if p.d.Acts() != p.m.acts || p.d.Dead() != p.m.dead || !slices.Equal(p.d.Pending(), p.m.pending()) {
		p.t.Errorf("%d acts, dead %t, pending %v; want %d, %t, %v", p.d.Acts(), p.d.Dead(), p.d.Pending(), p.m.acts, p.m.dead, p.m.pending())
	}
}

func TestD4WriteAtWhichItDies(t *testing.T) {
	for fate, want := range map[int]string{0: x, 1: y, 2 + 3*63: y[:63] + x[63:]} {
		d := made(t, 16)
		told(t, "Write", d.Write(6, x), api.OK)
		told(t, "Sync", d.Sync(), api.OK)
		told(t, "Arm", d.Arm(1), api.OK)
		told(t, "Write", d.Write(6, y), api.ErrDead)
		pendingAre(t, d, 6)
		if !d.Dead() || d.Acts() != 3 {
			t.Errorf("dead %t, %d acts", d.Dead(), d.Acts())
		}
		d.Crash([]int{fate})
		readsAs(t, d, 6, want)
	}
}

func TestD4SyncAtWhichItDies(t *testing.T) {
	d := made(t, 16)
	told(t, "Write", d.Write(6, x), api.OK)
	told(t, "Write", d.Write(2, y), api.OK)
	die(t, d)
	pendingAre(t, d, 2, 6)
	d.Crash([]int{1, 0})
	readsAs(t, d, 2, y)
	readsAs(t, d, 6, zeros)
}

func TestD4OnlyActsCount(t *testing.T) {
	d := made(t, 16)
	told(t, "Arm", d.Arm(2), api.OK)
	for range 5 {
		d.Read(3)
		d.Read(99)
		d.Size()
		d.Dead()
		d.Acts()
		d.Pending()
		told(t, "Arm(-1)", d.Arm(-1), api.ErrArg)
		for w := range wrongWrites() {
			told(t, "a wrong Write", d.Write(w.sector, w.bytes), api.ErrDiskSector)
		}
	}
	if d.Dead() || d.Acts() != 0 {
		t.Fatalf("dead %t, %d acts", d.Dead(), d.Acts())
	}
	told(t, "Write", d.Write(0, x), api.OK)
	told(t, "Write", d.Write(1, x), api.ErrDead)
	if d.Acts() != 2 {
		t.Errorf("Acts: %d", d.Acts())
	}
}

func TestD4ArmAnew(t *testing.T) {
	d := made(t, 16)
	told(t, "Arm", d.Arm(2), api.OK)
	told(t, "Write", d.Write(0, x), api.OK)
	told(t, "Arm", d.Arm(3), api.OK)
	told(t, "Write", d.Write(0, x), api.OK)
	told(t, "Sync", d.Sync(), api.OK)
	told(t, "Arm", d.Arm(0), api.OK)
	for range 10 {
		told(t, "Sync", d.Sync(), api.OK)
	}
	told(t, "Arm", d.Arm(math.MaxInt), api.OK)
	for range 10 {
		told(t, "Write", d.Write(0, y), api.OK)
	}
	told(t, "Arm", d.Arm(1), api.OK)
	for _, n := range []int{-1, -2, math.MinInt} {
		told(t, "Arm below 0", d.Arm(n), api.ErrArg)
	}
	told(t, "Write", d.Write(0, z), api.ErrDead)
	if d.Acts() != 24 {
		t.Errorf("Acts: %d, want 24", d.Acts())
	}
}

func TestD4ArmOfADeadDisk(t *testing.T) {
	d := made(t, 16)
	die(t, d)
	for _, n := range []int{math.MinInt, -1, 0, 1, 5, math.MaxInt} {
		told(t, "Arm of a dead disk", d.Arm(n), api.ErrDead)
	}
	if !d.Dead() || d.Acts() != 1 {
		t.Errorf("dead %t, %d acts", d.Dead(), d.Acts())
	}
	d.Crash(nil)
	for range 10 {
		told(t, "Sync", d.Sync(), api.OK)
	}
}

func TestD5Fates(t *testing.T) {
	fates := []int{math.MinInt, math.MinInt + 1, math.MinInt + 2, math.MaxInt, math.MaxInt - 1, math.MaxInt - 2}
	for n := -400; n <= 400; n++ {
		fates = append(fates, n)
	}
	p := newPair(t, 16)
	for _, fate := range fates {
		p.write(5, stepsFrom(0))
		p.sync()
		p.write(5, steps)
		p.crash(fate)
		p.same()
		if t.Failed() {
			t.Fatalf("at the fate %d", fate)
		}
	}
}

func TestD5FatesByHand(t *testing.T) {
	for fate, b := range map[int]int{
		0: 0, 3: 0, 9: 0, 300: 0, // lost
		1: 64, 4: 64, 301: 64, // kept
		2: 0, 5: 1, 14: 4, 2 + 3*63: 63, 2 + 3*64: 64, 2 + 3*65: 0, 2 + 3*66: 1, // torn
		-1: 0, -2: 64, -3: 0, -4: 0, -5: 64, -6: 1, -15: 4,
		math.MaxInt: 64, math.MinInt: 64, // 2^63 - 1 is 3 times something and 1
	} {
		d := made(t, 16)
		told(t, "Write", d.Write(0, x), api.OK)
		told(t, "Sync", d.Sync(), api.OK)
		told(t, "Write", d.Write(0, y), api.OK)
		d.Crash([]int{fate})
		if got, e := d.Read(0); got != y[:b]+x[b:] || e != api.OK {
			t.Errorf("the fate %d: %q, %d", fate, got, e)
		}
	}
}

func TestD5FatesByPlace(t *testing.T) {
	d := made(t, 16)
	for n := range 16 {
		told(t, "Write", d.Write(n, x), api.OK)
	}
	told(t, "Sync", d.Sync(), api.OK)
	for _, n := range []int{13, 2, 15, 0, 7} {
		told(t, "Write", d.Write(n, y), api.OK)
	}
	pendingAre(t, d, 0, 2, 7, 13, 15)
	d.Crash([]int{2 + 3*1, 0, 1, 2 + 3*2})
	want := slices.Repeat([]string{x}, 16)
	want[0] = y[:1] + x[1:]
	want[7] = y
	want[13] = y[:2] + x[2:]
	for n, s := range want {
		readsAs(t, d, n, s)
	}
	pendingAre(t, d)
}

func TestD5MoreFatesThanSectors(t *testing.T) {
	d := made(t, 16)
	d.Crash([]int{1, 1, 1})
	told(t, "Write", d.Write(4, x), api.OK)
	d.Crash([]int{1, 0, 2, 1, 1, 1, 1, 1, 1, 1, 1, 1, 1, 1, 1, 1, 1, 1, 1, 1})
	for n := range 16 {
		if n != 4 {
			readsAs(t, d, n, zeros)
		}
	}
	readsAs(t, d, 4, x)
}

func TestD5BehindACrash(t *testing.T) {
	d := made(t, 16)
	told(t, "Write", d.Write(4, x), api.OK)
	die(t, d)
	d.Crash([]int{1})
	if d.Dead() || d.Acts() != 2 || d.Size() != 16 {
		t.Errorf("dead %t, %d acts, %d sectors", d.Dead(), d.Acts(), d.Size())
	}
	pendingAre(t, d)
	readsAs(t, d, 4, x)
	told(t, "Write", d.Write(4, y), api.OK)
	told(t, "Sync", d.Sync(), api.OK)
	readsAs(t, d, 4, y)
}

func TestD5WhatACrashLeftIsOldThen(t *testing.T) {
	d := made(t, 16)
	told(t, "Write", d.Write(4, x), api.OK)
	told(t, "Write", d.Write(5, x), api.OK)
	d.Crash([]int{1, 2 + 3*8})
	d.Crash(nil)
	readsAs(t, d, 4, x)
	readsAs(t, d, 5, x[:8]+zeros[8:])
	told(t, "Write", d.Write(4, y), api.OK)
	told(t, "Write", d.Write(5, y), api.OK)
	d.Crash(nil)
	readsAs(t, d, 4, x)
	readsAs(t, d, 5, x[:8]+zeros[8:])
}

func TestD5ACrashDisarms(t *testing.T) {
	d := made(t, 16)
	told(t, "Arm", d.Arm(2), api.OK)
	told(t, "Write", d.Write(4, x), api.OK)
	d.Crash(nil)
	for range 10 {
		told(t, "Write", d.Write(4, x), api.OK)
	}
	die(t, d)
	d.Crash(nil)
	for range 10 {
		told(t, "Sync", d.Sync(), api.OK)
	}
}

func TestD5PendingOfADeadDisk(t *testing.T) {
	d := made(t, 32768)
	for _, n := range []int{32767, 300, 0, 299, 2, 1000} {
		told(t, "Write", d.Write(n, x), api.OK)
	}
	die(t, d)
	pendingAre(t, d, 0, 2, 299, 300, 1000, 32767)
	pendingAre(t, d, 0, 2, 299, 300, 1000, 32767)
}

func TestD5AllArePending(t *testing.T) {
	d := made(t, 32768)
	how := make([]int, 32768)
	for n := range how {
		told(t, "Write", d.Write(32767-n, steps), api.OK)
		how[n] = n
	}
	if l := d.Pending(); len(l) != 32768 || !slices.IsSorted(l) {
		t.Errorf("%d pending, rising %t", len(l), slices.IsSorted(l))
	}
	d.Crash(how)
	for n := range how {
		readsAs(t, d, n, met(n, zeros, steps))
	}
}

// someWrites makes a disk of which some sectors are synced, some pending, and of these some were synced ahead.
func someWrites(r *rand.Rand, p pair) {
	for range r.Intn(20) {
		p.write(r.Intn(16), full(string(rune('a'+r.Intn(26)))))
	}
	p.sync()
	for range r.Intn(20) {
		p.write(r.Intn(16), stepsFrom(r.Intn(256)))
	}
}

func TestD6Theorem(t *testing.T) {
	r := rand.New(rand.NewSource(6))
	for range 300 {
		p := newPair(t, 16)
		someWrites(r, p)
		old, now := slices.Clone(p.m.atRest), []string{}
		for n := range 16 {
			s, _ := p.d.Read(n)
			now = append(now, s)
		}
		pending, acts := p.d.Pending(), p.d.Acts()
		p.crash(r.Perm(16)...)
		for n := range 16 {
			s, e := p.d.Read(n)
			if !slices.Contains(pending, n) && s != old[n] || !beginsAndEnds(s, now[n], old[n]) || e != api.OK {
				t.Errorf("sector %d: %q, %d of %q and %q", n, s, e, now[n], old[n])
			}
		}
		if p.d.Acts() != acts || p.d.Size() != 16 {
			t.Errorf("%d acts, %d sectors", p.d.Acts(), p.d.Size())
		}
	}
}

// beginsAndEnds: is s a beginning of one and the end of the other?
func beginsAndEnds(s, one, other string) bool {
	for b := range 65 {
		if s == one[:b]+other[b:] {
			return true
		}
	}
	return false
}

func TestD6DiesAtEachAct(t *testing.T) {
	for n := 1; n <= 40; n++ {
		r := rand.New(rand.NewSource(66))
		p := newPair(t, 16)
		p.arm(n)
		for range 3 {
			someWrites(r, p)
		}
		p.sameTold()
		p.crash(r.Perm(16)...)
		p.same()
	}
}

var numbers = []int{math.MinInt, -64, -2, -1, 0, 1, 2, 5, 14, 15, 16, 64, math.MaxInt}

// anyNumber is one that a disk has a sector of, or an edge.
func anyNumber(r *rand.Rand) int {
	if r.Intn(10) == 0 {
		return numbers[r.Intn(len(numbers))]
	}
	return r.Intn(16)
}

func anyBytes(r *rand.Rand) string {
	l := 64
	if r.Intn(15) == 0 {
		l = r.Intn(130)
	}
	b := make([]byte, l)
	r.Read(b)
	return string(b)
}

func anyHow(r *rand.Rand) []int {
	l := make([]int, r.Intn(18))
	for i := range l {
		l[i] = r.Intn(800) - 400
	}
	return l
}

// anyCall makes the same call to both, whichever.
func anyCall(r *rand.Rand, p pair) {
	switch k := r.Intn(30); {
	case k < 16:
		p.write(anyNumber(r), anyBytes(r))
	case k < 22:
		p.read(anyNumber(r))
	case k < 25:
		p.sync()
	case k < 28:
		p.arm(r.Intn(12) - 1)
	default:
		p.crash(anyHow(r)...)
	}
}

func TestRandomCalls(t *testing.T) {
	for seed := range 200 {
		r := rand.New(rand.NewSource(int64(seed)))
		p := newPair(t, 16+r.Intn(4))
		for range 200 {
			anyCall(r, p)
			p.sameTold()
		}
		p.same()
		p.crash(anyHow(r)...)
		p.same()
		if t.Failed() {
			t.Fatalf("at the seed %d", seed)
		}
	}
}

func TestR3HowIsNotWrittenInto(t *testing.T) {
	room := []int{14, -2, 5, 77, 78}
	d := made(t, 16)
	for n := range 5 {
		told(t, "Write", d.Write(n, x), api.OK)
	}
	d.Crash(room[:3])
	if !slices.Equal(room, []int{14, -2, 5, 77, 78}) {
		t.Errorf("how has become %v", room)
	}
	readsAs(t, d, 3, zeros)
}

func TestR3HowIsNotKept(t *testing.T) {
	how := []int{1}
	d := made(t, 16)
	told(t, "Write", d.Write(0, x), api.OK)
	d.Crash(how)
	how[0] = 0
	readsAs(t, d, 0, x)
	told(t, "Write", d.Write(0, y), api.OK)
	how[0] = 1
	d.Crash(nil)
	readsAs(t, d, 0, x)
}

func TestR3PendingIsNewMemory(t *testing.T) {
	d := made(t, 16)
	for _, n := range []int{9, 4, 12} {
		told(t, "Write", d.Write(n, x), api.OK)
	}
	one, other := d.Pending(), d.Pending()
	spoil(one)
	if !slices.Equal(other, []int{4, 9, 12}) {
		t.Errorf("another answer has become %v", other)
	}
	told(t, "Write", d.Write(1, x), api.OK)
	pendingAre(t, d, 1, 4, 9, 12)
	if !slices.Equal(other, []int{4, 9, 12}) {
		t.Errorf("a Write has made %v of an answer", other)
	}
	d.Crash([]int{1, 1, 0, 1})
	readsAs(t, d, 4, x)
	readsAs(t, d, 9, zeros)
}

// spoil writes into a list and all of its spare room.
func spoil(l []int) {
	l = l[:cap(l)]
	for i := range l {
		l[i] = -7
	}
}

func TestR3WhatWasReadStays(t *testing.T) {
	d := made(t, 16)
	told(t, "Write", d.Write(0, x), api.OK)
	s, _ := d.Read(0)
	told(t, "Write", d.Write(0, y), api.OK)
	d.Crash(nil)
	if s != x {
		t.Errorf("what was read has become %q", s)
	}
}

func TestR4TwoDisks(t *testing.T) {
	a, b := made(t, 16), made(t, 16)
	told(t, "Write", a.Write(3, x), api.OK)
	told(t, "Write", b.Write(3, y), api.OK)
	told(t, "Write", b.Write(5, y), api.OK)
	die(t, a)
	if b.Dead() || b.Acts() != 2 {
		t.Errorf("the other: dead %t, %d acts", b.Dead(), b.Acts())
	}
	pendingAre(t, a, 3)
	pendingAre(t, b, 3, 5)
	told(t, "Sync", b.Sync(), api.OK)
	a.Crash(nil)
	readsAs(t, a, 3, zeros)
	readsAs(t, b, 3, y)
}

func TestR4SameCallsSameAnswers(t *testing.T) {
	told := func() string {
		r := rand.New(rand.NewSource(44))
		p := newPair(t, 16)
		l := []string{}
		for range 300 {
			anyCall(r, p)
			s, e := p.d.Read(r.Intn(16))
			l = append(l, s, string(rune('0'+e)))
			for _, n := range p.d.Pending() {
				l = append(l, string(rune('A'+n)))
			}
		}
		return strings.Join(l, "")
	}
	if told() != told() {
		t.Error("the same calls have told other things")
	}
}
