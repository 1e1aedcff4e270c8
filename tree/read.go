package tree

import (
	"maps"
	"slices"

	"arboretum/api"
	"arboretum/path"
)

// Zxid is that of the last transaction.
func (t *Tree) Zxid() int { return t.zxid }

// Get is a node's data and Stat.
func (t *Tree) Get(p string) (string, api.Stat, api.Errno) {
	s, is := t.Stat(p)
	if !is {
		return "", api.Stat{}, api.ErrTreeNone
	}
	return t.nodes[p].data, s, api.OK
}

// Acl is a node's.
func (t *Tree) Acl(p string) ([]api.Acl, api.Errno) {
	n, is := t.nodes[p]
	if !is {
		return nil, api.ErrTreeNone
	}
	return slices.Clone(n.acl), api.OK
}

// Kids are the names of a node's, rising.
func (t *Tree) Kids(p string) ([]string, api.Errno) {
	if _, is := t.nodes[p]; !is {
		return nil, api.ErrTreeNone
	}
	l := t.kids(p)
	slices.Sort(l)
	return l, api.OK
}

// Stat is a node's, and whether there is one.
func (t *Tree) Stat(p string) (api.Stat, bool) {
	n, is := t.nodes[p]
	if !is {
		return api.Stat{}, false
	}
	s := n.stat
	s.Length, s.Kids = len(n.data), len(t.kids(p))
	return s, true
}

// kids are the names of those that have p as their parent, in no order.
func (t *Tree) kids(p string) []string {
	var l []string
	for q := range t.nodes {
		if path.Parent(q) == p {
			l = append(l, path.Base(q))
		}
	}
	return l
}

// Paths are those of all nodes, rising.
func (t *Tree) Paths() []string { return slices.Sorted(maps.Keys(t.nodes)) }

// Owned are the paths of a session's ephemerals, rising.
func (t *Tree) Owned(session int) []string {
	if session == 0 {
		return nil // whose Owner is 0 has none
	}
	var l []string
	for p, n := range t.nodes {
		if n.stat.Owner == session {
			l = append(l, p)
		}
	}
	slices.Sort(l)
	return l
}

// Session is a session's timeout and password, and whether there is one.
func (t *Tree) Session(id int) (int, string, bool) {
	s, is := t.sessions[id]
	return s.timeout, s.secret, is
}

// Sessions are all, rising.
func (t *Tree) Sessions() []int { return slices.Sorted(maps.Keys(t.sessions)) }
