package wal

import (
	"strings"

	"arboretum/api"
)

// Where the parts stand on the disk, in sectors.
const (
	marks = 2 // mark sectors, ahead of the areas
	areas = 2
)

// blank is so many zeros.
func blank(bytes int) string { return strings.Repeat("\x00", bytes) }

// sectors is how many each area has.
func (l *Log) sectors() int { return (l.disk.Size() - marks) / areas }

// space is how many bytes each area has.
func (l *Log) space() int { return l.sectors() * api.Sector }

// start is the first sector of an area.
func (l *Log) start(area int) int { return marks + area*l.sectors() }

// bytes are the first ones of an area.
func (l *Log) bytes(area, length int) (string, api.Errno) {
	var b strings.Builder
	for n := l.start(area); b.Len() < length; n++ {
		s, e := l.disk.Read(n)
		if e != api.OK {
			return "", e
		}
		b.WriteString(s)
	}
	return b.String()[:length], api.OK
}

// write lays s into the log's area, from the byte at on. Sectors are written as a whole: what stands ahead of s in the first one stays, what stands behind it in the last one does not.
func (l *Log) write(at int, s string) api.Errno {
	n := l.start(l.last.area) + at/api.Sector
	if ahead := at % api.Sector; ahead > 0 {
		was, e := l.disk.Read(n)
		if e != api.OK {
			return e
		}
		s = was[:ahead] + s
	}
	for ; s != ""; n++ {
		some := min(len(s), api.Sector)
		if e := l.disk.Write(n, s[:some]+blank(api.Sector-some)); e != api.OK {
			return e
		}
		s = s[some:]
	}
	return api.OK
}
