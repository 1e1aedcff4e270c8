package acl_test

import (
	"fmt"
	"math/big"
	"strings"

	"arboretum/api"
)

// The chapter's words, done step by step: what the package answers is held against it.

const (
	nameBytes  = "abcdefghijklmnopqrstuvwxyz0123456789"
	digitBytes = "0123456789abcdef"
)

// madeOf: is each byte of s one of these?
func madeOf(s, these string) bool {
	for i := range len(s) {
		if strings.IndexByte(these, s[i]) < 0 {
			return false
		}
	}
	return true
}

func isName(s string) bool { return len(s) >= 1 && len(s) <= 12 && madeOf(s, nameBytes) }

// isID takes the 17 bytes from behind: what stands ahead of them must be a name.
func isID(s string) bool {
	if s == "world" {
		return true
	}
	at := len(s) - 17
	return at >= 0 && isName(s[:at]) && s[at] == ':' && madeOf(s[at+1:], digitBytes)
}

func right(l []api.Acl) bool {
	if len(l) == 0 || len(l) > 4 {
		return false
	}
	for _, row := range l {
		if row.Perms <= 0 || row.Perms >= 32 || !isID(row.ID) {
			return false
		}
	}
	return true
}

// given: does one of the rows give one permission?
func given(l []api.Acl, perm int, ids []string) bool {
	for _, row := range l {
		if row.Perms&perm == 0 {
			continue
		}
		if row.ID == "world" {
			return true
		}
		for _, id := range ids {
			if id == row.ID {
				return true
			}
		}
	}
	return false
}

func may(l []api.Acl, perms int, ids []string) bool {
	if perms < 0 || perms > 31 {
		return false
	}
	for _, perm := range []int{1, 2, 4, 8, 16} {
		if perms&perm != 0 && !given(l, perm, ids) {
			return false
		}
	}
	return true
}

// digest multiplies numbers without a bound, and takes each modulo 2^64.
func digest(name, secret string) string {
	h, _ := new(big.Int).SetString("14695981039346656037", 10)
	by := big.NewInt(1099511628211)
	wrap := new(big.Int).Lsh(big.NewInt(1), 64)
	for _, b := range []byte(name + ":" + secret) {
		h.Xor(h, big.NewInt(int64(b)))
		h.Mul(h, by)
		h.Mod(h, wrap)
	}
	return name + ":" + fmt.Sprintf("%016x", h)
}
