package prep

import (
	"arboretum/acl"
	"arboretum/api"
	"arboretum/tree"
)

// asker is who asks for something, and the tree as it will be when that comes.
type asker struct {
	tree    *tree.Tree
	session int
	ids     []string
}

// may: may he do what a permission allows, at a node? Where there is none nobody may.
func (a asker) may(p string, perm int) bool {
	l, e := a.tree.Acl(p)
	return e == api.OK && acl.May(l, perm, a.ids...)
}

func (a asker) has(p string) bool {
	_, is := a.tree.Stat(p)
	return is
}

// full: is there no room for a node more, or, if it is to be his own, not for one of these?
func (a asker) full(own bool) bool {
	if own && len(a.tree.Owned(a.session)) >= api.MaxOwned {
		return true
	}
	return len(a.tree.Paths()) >= api.MaxNodes
}

// apart is he himself with a tree of his own, in which more may be done.
func (a asker) apart() asker {
	a.tree = a.tree.Clone()
	return a
}

// do does a transaction in such a tree. It has no zxid yet, and nothing that is asked here hangs on one.
func (a asker) do(x api.Txn) { a.tree.Apply(api.Entry{Txn: x}) }
