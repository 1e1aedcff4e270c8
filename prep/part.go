package prep

import (
	"slices"

	"arboretum/acl"
	"arboretum/api"
	"arboretum/path"
)

const (
	root       = "/"
	allFlags   = api.FlagOwned | api.FlagNumbered
	anyVersion = -1
)

func fits(version, number int) bool { return version == anyVersion || version == number }

func wrongCreate(a asker, r api.Request) api.Errno {
	parent := path.Parent(r.Path)
	up, is := a.tree.Stat(parent)
	p := pathOf(r, up.Cversion)
	switch e := path.Check(r.Path); {
	case e != api.OK:
		return e
	case len(r.Data) > api.MaxData, r.Flags < 0, r.Flags > allFlags:
		return api.ErrArg
	case !acl.Right(r.Acl):
		return api.ErrAclForm
	case !is:
		return api.ErrTreeNone
	case up.Owner != 0:
		return api.ErrTreeOwned
	case !a.may(parent, api.PermCreate):
		return api.ErrTreeAuth
	case path.Check(p) != api.OK: // nothing but the number can be wrong with it now
		return api.ErrPathLong
	case a.has(p):
		return api.ErrTreeThere
	case a.full(isOwned(r)):
		return api.ErrTreeFull
	}
	return api.OK
}

func create(a asker, r api.Request) api.Txn {
	up := statOf(a.tree, path.Parent(r.Path))
	x := api.Txn{Kind: api.TxnCreate, Path: pathOf(r, up.Cversion), Data: r.Data, Acl: slices.Clone(r.Acl), Number: up.Cversion + 1}
	if isOwned(r) {
		x.Owner = a.session
	}
	return x
}

// pathOf is that of the node which a ReqCreate asks for, where a Cversion is the parent's.
func pathOf(r api.Request, cversion int) string {
	if r.Flags&api.FlagNumbered == 0 {
		return r.Path
	}
	return path.Numbered(r.Path, cversion)
}

func isOwned(r api.Request) bool { return r.Flags&api.FlagOwned != 0 }

func wrongDelete(a asker, r api.Request) api.Errno {
	n, is := a.tree.Stat(r.Path)
	switch e := path.Check(r.Path); {
	case e != api.OK:
		return e
	case r.Path == root:
		return api.ErrArg
	case !is:
		return api.ErrTreeNone
	case !a.may(path.Parent(r.Path), api.PermDelete):
		return api.ErrTreeAuth
	case !fits(r.Version, n.Version):
		return api.ErrTreeStale
	case n.Kids > 0:
		return api.ErrTreeKids
	}
	return api.OK
}

func remove(a asker, r api.Request) api.Txn { return deletion(a, r.Path) }

// deletion is that of a node, whoever asks for it; where there is no node at its parent it is the first one.
func deletion(a asker, p string) api.Txn {
	return api.Txn{Kind: api.TxnDelete, Path: p, Number: statOf(a.tree, path.Parent(p)).Cversion + 1}
}

func wrongSet(a asker, r api.Request) api.Errno {
	n, is := a.tree.Stat(r.Path)
	switch e := path.Check(r.Path); {
	case e != api.OK:
		return e
	case len(r.Data) > api.MaxData:
		return api.ErrArg
	case !is:
		return api.ErrTreeNone
	case !a.may(r.Path, api.PermWrite):
		return api.ErrTreeAuth
	case !fits(r.Version, n.Version):
		return api.ErrTreeStale
	}
	return api.OK
}

func set(a asker, r api.Request) api.Txn {
	return api.Txn{Kind: api.TxnSet, Path: r.Path, Data: r.Data, Number: statOf(a.tree, r.Path).Version + 1}
}

func wrongSetAcl(a asker, r api.Request) api.Errno {
	n, is := a.tree.Stat(r.Path)
	switch e := path.Check(r.Path); {
	case e != api.OK:
		return e
	case !acl.Right(r.Acl):
		return api.ErrAclForm
	case !is:
		return api.ErrTreeNone
	case !a.may(r.Path, api.PermAdmin):
		return api.ErrTreeAuth
	case !fits(r.Version, n.Aversion):
		return api.ErrTreeStale
	}
	return api.OK
}

func setAcl(a asker, r api.Request) api.Txn {
	return api.Txn{Kind: api.TxnAcl, Path: r.Path, Acl: slices.Clone(r.Acl), Number: statOf(a.tree, r.Path).Aversion + 1}
}

func wrongCheck(a asker, r api.Request) api.Errno {
	n, is := a.tree.Stat(r.Path)
	switch e := path.Check(r.Path); {
	case e != api.OK:
		return e
	case !is:
		return api.ErrTreeNone
	case !a.may(r.Path, api.PermRead):
		return api.ErrTreeAuth
	case !fits(r.Version, n.Version):
		return api.ErrTreeStale
	}
	return api.OK
}
