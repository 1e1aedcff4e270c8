package wal

import (
	"strings"

	"arboretum/api"
	"arboretum/codec"
)

// The bytes that a record has beside its own.
const (
	lengthBytes = 2
	sumBytes    = 4
	frame       = lengthBytes + sumBytes
)

func tooLong(s string) bool { return len(s) > api.MaxRecord }

// size is how many bytes they have, as they are laid.
func size(records ...string) int {
	n := 0
	for _, s := range records {
		n += frame + len(s)
	}
	return n
}

// laid are they, one behind the other.
func laid(records ...string) string {
	var b strings.Builder
	for _, s := range records {
		summed := high(len(s), lengthBytes) + s
		b.WriteString(summed)
		b.WriteString(high(int(codec.Sum(summed)), sumBytes))
	}
	return b.String()
}

// taken are the records that stand in s; false, if anything else does.
func taken(s string) ([]string, bool) {
	var records []string
	for s != "" {
		if len(s) < frame {
			return nil, false
		}
		behind := lengthBytes + value(s[:lengthBytes])
		if behind > lengthBytes+api.MaxRecord || behind+sumBytes > len(s) {
			return nil, false
		}
		if value(s[behind:behind+sumBytes]) != int(codec.Sum(s[:behind])) {
			return nil, false
		}
		records = append(records, s[lengthBytes:behind])
		s = s[behind+sumBytes:]
	}
	return records, true
}

// high are the lowest so many bytes of n, the highest of them first.
func high(n, bytes int) string {
	b := make([]byte, bytes)
	for i := range b {
		b[bytes-1-i] = byte(n >> (8 * i))
	}
	return string(b)
}

// value is the number that high has laid.
func value(s string) int {
	n := 0
	for _, c := range []byte(s) {
		n = n<<8 | int(c)
	}
	return n
}
