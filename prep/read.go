package prep

import (
	"arboretum/api"
	"arboretum/path"
)

// reading is how requests of one kind are read for.
type reading struct {
	kind  int
	perms int // what he must be allowed; of none everybody is
	tell  func(a asker, p string) api.Reply
}

func readings() []reading {
	return []reading{
		{kind: api.ReqGet, perms: api.PermRead, tell: get},
		{kind: api.ReqExists, tell: exists},
		{kind: api.ReqKids, perms: api.PermRead, tell: kids},
		{kind: api.ReqGetAcl, perms: api.PermRead, tell: getAcl},
	}
}

// read is a reply but for its numbers.
func read(a asker, r api.Request) api.Reply {
	for _, l := range readings() {
		if l.kind != r.Kind {
			continue
		}
		if e := wrongRead(a, r.Path, l.perms); e != api.OK {
			return api.Reply{Err: e}
		}
		return l.tell(a, r.Path)
	}
	return api.Reply{Err: api.ErrPrepKind}
}

// wrongRead is what a reading is refused for.
func wrongRead(a asker, p string, perms int) api.Errno {
	switch e := path.Check(p); {
	case e != api.OK:
		return e
	case !a.has(p):
		return api.ErrTreeNone
	case !a.may(p, perms):
		return api.ErrTreeAuth
	}
	return api.OK
}

func get(a asker, p string) api.Reply {
	data, s, _ := a.tree.Get(p)
	return api.Reply{Data: data, Stat: s}
}

func exists(a asker, p string) api.Reply { return api.Reply{Stat: statOf(a.tree, p)} }

func kids(a asker, p string) api.Reply {
	l, _ := a.tree.Kids(p)
	return api.Reply{Stat: statOf(a.tree, p), Kids: l}
}

func getAcl(a asker, p string) api.Reply {
	l, _ := a.tree.Acl(p)
	return api.Reply{Stat: statOf(a.tree, p), Acl: l}
}
