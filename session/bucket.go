package session

const (
	lastTime = 1 << 40
	width    = 4 // ticks from one deadline to the next that there may be
)

// bucket is the sessions that have one deadline, each with its timeout.
type bucket map[int]int

func isTime(n int) bool { return 0 <= n && n <= lastTime }

// deadline is rounded up, so that nobody ends too early by it.
func deadline(now, timeout int) int { return (now + timeout + width - 1) / width * width }

// put lays a session, which is in no bucket, into one.
func (t *Tracker) put(id, timeout, at int) {
	if _, is := t.buckets[at]; !is {
		t.buckets[at] = bucket{}
	}
	t.buckets[at][id] = timeout
}

// take takes a session out of its bucket.
func (t *Tracker) take(id, at int) {
	delete(t.buckets[at], id)
	if len(t.buckets[at]) == 0 {
		delete(t.buckets, at)
	}
}
