package path_test

import (
	"math/big"
	"strings"

	"arboretum/api"
)

// The chapter's words, done step by step, byte by byte: what the package answers is held against it.

const nameBytes = "abcdefghijklmnopqrstuvwxyzABCDEFGHIJKLMNOPQRSTUVWXYZ0123456789_-."

func isName(s string) bool {
	for i := range len(s) {
		if strings.IndexByte(nameBytes, s[i]) < 0 {
			return false
		}
	}
	return len(s) >= 1 && s != "." && s != ".."
}

// namesOf takes p apart into names, each with a slash ahead; false: it is not made of them.
func namesOf(p string) ([]string, bool) {
	names := []string{}
	for p != "" {
		if p[0] != '/' {
			return nil, false
		}
		end := 1
		for end < len(p) && p[end] != '/' {
			end++
		}
		if !isName(p[1:end]) {
			return nil, false
		}
		names = append(names, p[1:end])
		p = p[end:]
	}
	return names, len(names) >= 1
}

func check(p string) api.Errno {
	names, right := namesOf(p)
	switch {
	case p != "/" && !right:
		return api.ErrPathForm
	case len(p) > 60 || len(names) > 6:
		return api.ErrPathLong
	}
	return api.OK
}

// lastSlash is -1, if there is none.
func lastSlash(p string) int {
	last := -1
	for i := range len(p) {
		if p[i] == '/' {
			last = i
		}
	}
	return last
}

func parent(p string) string {
	switch last := lastSlash(p); {
	case last == -1 || p == "/":
		return ""
	case last == 0:
		return "/"
	default:
		return p[:last]
	}
}

func base(p string) string {
	last := lastSlash(p)
	if last == -1 {
		return p
	}
	return p[last+1:]
}

func kid(p, name string) string {
	if p == "/" {
		return p + name
	}
	return p + "/" + name
}

func under(p, q string) bool {
	top := kid(q, "")
	if len(p) <= len(top) {
		return false
	}
	return p[:len(top)] == top
}

// numbered takes the digits of n from behind, one by one.
func numbered(p string, n int) string {
	if n < 0 {
		n = 0
	}
	rest, ten, digit, s := big.NewInt(int64(n)), big.NewInt(10), new(big.Int), ""
	for range 10 {
		rest.DivMod(rest, ten, digit)
		s = digit.String() + s
	}
	return p + s
}
