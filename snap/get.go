package snap

import (
	"arboretum/api"
	"arboretum/codec"
	"arboretum/tree"
)

// In all of this file the reader keeps what was wrong first, so nothing asks ahead of its end; a tree of which something was wrong is thrown away.

// taken is the tree of a snapshot that is right.
func taken(s string) (*tree.Tree, api.Errno) {
	r, t := codec.Read(s), tree.New()
	if r.Text(api.MaxText) != head {
		r.Fail()
	}
	t.LayZxid(r.Num())
	getNodes(r, t)
	getSessions(r, t)
	if r.End() != api.OK {
		return nil, api.ErrSnapForm
	}
	return t, api.OK
}

func getNodes(r *codec.Reader, t *tree.Tree) {
	n := r.Count(api.MaxList)
	if n == 0 {
		r.Fail() // no tree is without the root
	}
	last := ""
	for i := range n {
		p := getNode(r, t)
		if i == 0 && p != root || p <= last {
			r.Fail()
		}
		last = p
	}
}

// getNode lays a node, and answers its path.
func getNode(r *codec.Reader, t *tree.Tree) string {
	p, data, rows := r.Text(api.MaxText), r.Text(api.MaxText), getRows(r)
	t.Lay(p, data, rows, getStat(r))
	if _, is := t.Stat(p); !is {
		r.Fail() // a tree takes what is a path alone
	}
	return p
}

func getRows(r *codec.Reader) []api.Acl {
	var rows []api.Acl
	for range r.Count(api.MaxList) {
		rows = append(rows, api.Acl{Perms: r.Num(), ID: r.Text(api.MaxText)})
	}
	return rows
}

func getStat(r *codec.Reader) api.Stat {
	return api.Stat{
		Czxid: r.Num(), Mzxid: r.Num(), Pzxid: r.Num(),
		Version: r.Num(), Cversion: r.Num(), Aversion: r.Num(),
		Owner: r.Num(),
	}
}

func getSessions(r *codec.Reader, t *tree.Tree) {
	last := 0
	for range r.Count(api.MaxList) {
		id, timeout, secret := r.Num(), r.Num(), r.Text(api.MaxText)
		if id <= last {
			r.Fail()
		}
		t.LaySession(id, timeout, secret)
		last = id
	}
}
