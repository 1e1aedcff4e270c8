package ledger

import (
	"cmp"
	"slices"

	"arboretum/api"
	"arboretum/wire"
)

// history is a snapshot, of the tree at the base, and the entries behind it.
type history struct {
	base     int
	snapshot string
	entries  []entry
}

// entry is one as its record tells it: so what was handed in is not kept, and what comes out is new each time.
type entry struct {
	zxid int
	laid string
}

// entryOf lays one; false, if it does not fit.
func entryOf(e api.Entry) (entry, bool) {
	s := wire.PutEntry(e)
	_, wrong := wire.GetEntry(s)
	return entry{e.Zxid, s}, wrong == api.OK && !nested(e.Txn)
}

// nested tells whether a Sub has Subs: they are left out of what is laid, so that alone does not tell.
func nested(t api.Txn) bool {
	return slices.ContainsFunc(t.Subs, func(sub api.Txn) bool { return len(sub.Subs) > 0 })
}

// entriesOf lays all; false, if one does not fit.
func entriesOf(all []api.Entry) ([]entry, bool) {
	var l []entry
	for _, e := range all {
		x, fits := entryOf(e)
		if !fits {
			return nil, false
		}
		l = append(l, x)
	}
	return l, true
}

// Last is the zxid of the last entry, or the base.
func (h *history) Last() int {
	if n := len(h.entries); n > 0 {
		return h.entries[n-1].zxid
	}
	return h.base
}

// Base is the zxid of the snapshot.
func (h *history) Base() int { return h.base }

// Snapshot is what stands in the place of all entries up to the base.
func (h *history) Snapshot() string { return h.snapshot }

// Entries are those behind a zxid.
func (h *history) Entries(zxid int) ([]api.Entry, api.Errno) {
	if zxid < h.base {
		return nil, api.ErrLedgerZxid
	}
	n, _ := h.upTo(zxid)
	var l []api.Entry
	for _, x := range h.entries[n:] {
		e, _ := wire.GetEntry(x.laid)
		l = append(l, e)
	}
	return l, api.OK
}

// Marks are the last zxid of each epoch, rising.
func (h *history) Marks() []int {
	var l []int
	for _, zxid := range h.zxids() {
		if n := len(l); n > 0 && epochOf(l[n-1]) == epochOf(zxid) {
			l[n-1] = zxid
		} else {
			l = append(l, zxid)
		}
	}
	return l
}

// epochOf is a zxid's, without its count.
func epochOf(zxid int) int { return zxid / (api.MaxCount + 1) }

// zxids are all that it knows: the entries', and the base, if it is any's.
func (h *history) zxids() []int {
	var l []int
	if h.base > 0 {
		l = append(l, h.base)
	}
	for _, x := range h.entries {
		l = append(l, x.zxid)
	}
	return l
}

// upTo is how many entries there are up to a zxid, and whether that is the base or one of theirs.
func (h *history) upTo(zxid int) (int, bool) {
	n, is := slices.BinarySearchFunc(h.entries, zxid, func(x entry, zxid int) int { return cmp.Compare(x.zxid, zxid) })
	if is {
		n++
	}
	return n, is || zxid == h.base
}

// rises tells whether the zxids of its entries do, from above the base on.
func (h *history) rises() bool {
	last := h.base
	for _, x := range h.entries {
		if x.zxid <= last {
			return false
		}
		last = x.zxid
	}
	return true
}
