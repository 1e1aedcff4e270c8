package prep

import (
	"arboretum/api"
	"arboretum/tree"
)

// telling is what is told of transactions of one kind, when a tree has them.
type telling struct {
	kind int
	tell func(t *tree.Tree, x api.Txn) api.Reply
}

// parts are those of which something is told as of a multi's parts, too.
func parts() []telling {
	return []telling{
		{kind: api.TxnCreate, tell: tellCreate},
		{kind: api.TxnSet, tell: tellStat},
		{kind: api.TxnAcl, tell: tellStat},
	}
}

func wholes() []telling {
	return append(parts(), telling{kind: api.TxnMulti, tell: tellMulti}, telling{kind: api.TxnError, tell: tellError})
}

// told is nothing, if the kind is none of the list's.
func told(t *tree.Tree, x api.Txn, l []telling) api.Reply {
	for _, k := range l {
		if k.kind == x.Kind {
			return k.tell(t, x)
		}
	}
	return api.Reply{}
}

func tellCreate(t *tree.Tree, x api.Txn) api.Reply {
	return api.Reply{Path: x.Path, Stat: statOf(t, x.Path)}
}

func tellStat(t *tree.Tree, x api.Txn) api.Reply { return api.Reply{Stat: statOf(t, x.Path)} }

func tellMulti(t *tree.Tree, x api.Txn) api.Reply {
	var r api.Reply
	for _, sub := range x.Subs {
		r.Subs = append(r.Subs, told(t, sub, parts()))
	}
	return r
}

// tellError tells of the parts up to the one that was refused.
func tellError(_ *tree.Tree, x api.Txn) api.Reply {
	r := api.Reply{Err: x.Err}
	if x.Number < 0 || x.Number >= api.MaxOps {
		return r
	}
	for range x.Number {
		r.Subs = append(r.Subs, api.Reply{Err: api.ErrPrepMulti})
	}
	r.Subs = append(r.Subs, api.Reply{Err: x.Err})
	return r
}

// statOf is zero, if there is no node.
func statOf(t *tree.Tree, p string) api.Stat {
	s, _ := t.Stat(p)
	return s
}
