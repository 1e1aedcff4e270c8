package acl

import (
	"strconv"
	"strings"

	"arboretum/api"
)

const (
	maxName = 12  // bytes of a user's name
	colon   = ":" // behind it
	digits  = 16  // of an ID, behind that
)

// Digest is the ID of a name and a secret.
func Digest(name, secret string) (string, api.Errno) {
	if !isName(name) {
		return "", api.ErrAclForm
	}
	s := strconv.FormatUint(hash(name, colon, secret), 16)
	return name + colon + strings.Repeat("0", digits-len(s)) + s, api.OK
}

// hash goes on from part to part, so that a long secret need not be copied behind its name.
func hash(parts ...string) uint64 {
	h := uint64(14695981039346656037)
	for _, part := range parts {
		for i := range len(part) {
			h = (h ^ uint64(part[i])) * 1099511628211
		}
	}
	return h
}

func isID(s string) bool {
	name, rest, found := strings.Cut(s, colon)
	if !found {
		return s == api.Anyone
	}
	return isName(name) && areDigits(rest)
}

func isName(s string) bool {
	if s == "" || len(s) > maxName {
		return false
	}
	for i := range len(s) {
		if !isDecimal(s[i]) && !within(s[i], 'a', 'z') {
			return false
		}
	}
	return true
}

func areDigits(s string) bool {
	if len(s) != digits {
		return false
	}
	for i := range len(s) {
		if !isDecimal(s[i]) && !within(s[i], 'a', 'f') {
			return false
		}
	}
	return true
}

func isDecimal(b byte) bool { return within(b, '0', '9') }

func within(b, first, last byte) bool { return first <= b && b <= last }
