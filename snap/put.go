package snap

import (
	"arboretum/api"
	"arboretum/codec"
	"arboretum/tree"
)

// gatherer answers closures over what was laid so far: the one lays a node more, the other tells the snapshot of all. How many nodes there are is told ahead of them and known last, so they are laid by a writer of their own.
func gatherer(t *tree.Tree) (lay func(p string), gather func() string) {
	zxid, count, nodes := t.Zxid(), 0, codec.New()
	lay = func(p string) {
		putNode(nodes, t, p)
		count++
	}
	gather = func() string {
		ahead, behind := codec.New(), codec.New()
		ahead.Text(head)
		ahead.Num(zxid)
		ahead.Count(count)
		putSessions(behind, t)
		return ahead.Bytes() + nodes.Bytes() + behind.Bytes()
	}
	return lay, gather
}

func putNode(w *codec.Writer, t *tree.Tree, p string) {
	data, s, _ := t.Get(p)
	rows, _ := t.Acl(p)
	w.Text(p)
	w.Text(data)
	putRows(w, rows)
	putNums(w, s.Czxid, s.Mzxid, s.Pzxid, s.Version, s.Cversion, s.Aversion, s.Owner)
}

func putRows(w *codec.Writer, rows []api.Acl) {
	w.Count(len(rows))
	for _, row := range rows {
		w.Num(row.Perms)
		w.Text(row.ID)
	}
}

func putNums(w *codec.Writer, ns ...int) {
	for _, n := range ns {
		w.Num(n)
	}
}

func putSessions(w *codec.Writer, t *tree.Tree) {
	ids := t.Sessions()
	w.Count(len(ids))
	for _, id := range ids {
		timeout, secret, _ := t.Session(id)
		putNums(w, id, timeout)
		w.Text(secret)
	}
}
