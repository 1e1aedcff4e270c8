package wal

import "arboretum/api"

// mostCount is the greatest count of a mark: a log whose last mark has it changes no more.
const mostCount = 1<<32 - 1

// mark is what a mark sector tells.
type mark struct {
	count, area, length, number, a, b int
}

// laid is it as a sector. The count stands at both ends, so that a torn sector is no mark.
func (m mark) laid() string {
	count := high(m.count, 4)
	return "WM" + count + high(m.area, 1) + high(m.length, 4) + high(m.number, 4) +
		high(m.a, 8) + high(m.b, 8) + blank(29) + count
}

// markIn is the mark that a sector would have, if it is right.
func markIn(s string) mark {
	return mark{
		count:  value(s[2:6]),
		area:   value(s[6:7]),
		length: value(s[7:11]),
		number: value(s[11:15]),
		a:      value(s[15:23]),
		b:      value(s[23:31]),
	}
}

// right tells whether s, which the mark sector of that number has, is this mark, and one that a log with that space lays.
func (m mark) right(s string, sector, space int) bool {
	// A number of 8 bytes above 2^63 - 1 has come out below 0.
	return m.laid() == s && m.count >= 1 && m.count%marks == sector &&
		m.area < areas && m.length <= space && m.a >= 0 && m.b >= 0
}

// lastMark is the right one of the greater count; if there is none, one of the count 0.
func (l *Log) lastMark() (mark, api.Errno) {
	last := mark{}
	for n := range marks {
		s, e := l.disk.Read(n)
		if e != api.OK {
			return mark{}, e
		}
		if m := markIn(s); m.right(s, n, l.space()) && m.count > last.count {
			last = m
		}
	}
	return last, api.OK
}

// advance lays the next mark, of what the last one is to tell now, and syncs. It is laid over the last one but one: the last one is there till the next one is.
func (l *Log) advance() api.Errno {
	l.last.count++
	if e := l.disk.Write(l.last.count%marks, l.last.laid()); e != api.OK {
		return e
	}
	return l.disk.Sync()
}

// settle lets all records last: first they, then the mark that counts them.
func (l *Log) settle() api.Errno {
	if e := l.disk.Sync(); e != api.OK {
		return e
	}
	l.last.length, l.last.number = l.used, l.Len()
	return l.advance()
}
