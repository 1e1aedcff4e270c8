package ledger

import (
	"slices"
	"strings"

	"arboretum/api"
	"arboretum/codec"
	"arboretum/wire"
)

// records are all those of the log in which it stands.
func (h *history) records() []string {
	l := h.front()
	for _, x := range h.entries {
		l = append(l, x.laid)
	}
	return l
}

// front are the records ahead of the entries: a head, and the snapshot in pieces.
func (h *history) front() []string {
	w := codec.New()
	w.Num(h.base)
	w.Count(len(h.snapshot))
	l := []string{w.Bytes()}
	for s := h.snapshot; s != ""; {
		some := min(len(s), api.MaxRecord)
		l = append(l, s[:some])
		s = s[some:]
	}
	return l
}

// pieces is how many a snapshot of so many bytes is laid in.
func pieces(bytes int) int { return (bytes + api.MaxRecord - 1) / api.MaxRecord }

// taken is the history that stands in these records; false, if they are none that is right.
func taken(records []string) (history, bool) {
	h, ahead, right := takenFront(records)
	if !right {
		return history{}, false
	}
	for _, s := range records[ahead:] {
		e, wrong := wire.GetEntry(s)
		if wrong != api.OK {
			return history{}, false
		}
		h.entries = append(h.entries, entry{e.Zxid, s})
	}
	return h, h.rises() && len(h.entries) <= api.MaxEntries
}

// takenFront is a history without its entries, and how many records stand ahead of them.
func takenFront(records []string) (history, int, bool) {
	if len(records) == 0 {
		return history{}, 0, false
	}
	r := codec.Read(records[0])
	h := history{base: r.Num()}
	ahead := 1 + pieces(r.Count(api.MaxSnap))
	if r.End() != api.OK || h.base < 0 || ahead > len(records) {
		return history{}, 0, false
	}
	h.snapshot = strings.Join(records[1:ahead], "")
	// Laid again, it tells whether it has as many bytes as its head says, and is cut where it must be.
	return h, ahead, slices.Equal(h.front(), records[:ahead])
}
