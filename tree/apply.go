package tree

import (
	"slices"

	"arboretum/api"
	"arboretum/path"
)

// Apply does a transaction: what changed by it; its error, if it is one.
func (t *Tree) Apply(e api.Entry) ([]api.Event, api.Errno) {
	events := t.do(e.Txn, e.Zxid)
	t.zxid = e.Zxid
	if e.Txn.Kind == api.TxnError {
		return nil, e.Txn.Err
	}
	return events, api.OK
}

// do answers what changed.
func (t *Tree) do(x api.Txn, zxid int) []api.Event {
	var events []api.Event
	switch x.Kind {
	case api.TxnOpen:
		t.LaySession(x.Owner, x.Number, x.Data)
	case api.TxnClose:
		for _, sub := range x.Subs {
			if sub.Kind == api.TxnDelete {
				events = append(events, t.remove(sub, zxid)...)
			}
		}
		delete(t.sessions, x.Owner)
	case api.TxnMulti:
		for _, sub := range x.Subs {
			events = append(events, t.part(sub, zxid)...)
		}
	default:
		events = t.part(x, zxid)
	}
	return events
}

// part does one; what is none does nothing.
func (t *Tree) part(x api.Txn, zxid int) []api.Event {
	switch x.Kind {
	case api.TxnCreate:
		return t.create(x, zxid)
	case api.TxnDelete:
		return t.remove(x, zxid)
	case api.TxnSet:
		return t.set(x, zxid)
	case api.TxnAcl:
		t.setAcl(x)
	}
	return nil
}

// mayCome: is it a path of a node that may come and go?
func mayCome(p string) bool { return p != root && path.Check(p) == api.OK }

func (t *Tree) create(x api.Txn, zxid int) []api.Event {
	parent := path.Parent(x.Path)
	if !mayCome(x.Path) || !t.setKids(parent, x.Number, zxid) {
		return nil
	}
	kind := api.EventCreated
	if _, was := t.nodes[x.Path]; was {
		kind = api.EventData
	}
	t.Lay(x.Path, x.Data, x.Acl, api.Stat{Czxid: zxid, Mzxid: zxid, Pzxid: zxid, Owner: x.Owner})
	return []api.Event{{Kind: kind, Path: x.Path, Zxid: zxid}, {Kind: api.EventKids, Path: parent, Zxid: zxid}}
}

func (t *Tree) remove(x api.Txn, zxid int) []api.Event {
	if !mayCome(x.Path) {
		return nil
	}
	_, was := t.nodes[x.Path]
	delete(t.nodes, x.Path)
	t.removeUnder(x.Path)
	parent := path.Parent(x.Path)
	has := t.setKids(parent, x.Number, zxid)
	var events []api.Event
	if was {
		events = append(events, api.Event{Kind: api.EventDeleted, Path: x.Path, Zxid: zxid})
	}
	if was && has {
		events = append(events, api.Event{Kind: api.EventKids, Path: parent, Zxid: zxid})
	}
	return events
}

// removeUnder takes away what lies under p, whether there is a node of p or not.
func (t *Tree) removeUnder(p string) {
	for q := range t.nodes {
		if path.Under(q, p) {
			delete(t.nodes, q)
		}
	}
}

func (t *Tree) set(x api.Txn, zxid int) []api.Event {
	n, is := t.nodes[x.Path]
	if !is {
		return nil
	}
	n.data, n.stat.Version, n.stat.Mzxid = x.Data, x.Number, zxid
	t.nodes[x.Path] = n
	return []api.Event{{Kind: api.EventData, Path: x.Path, Zxid: zxid}}
}

func (t *Tree) setAcl(x api.Txn) {
	n, is := t.nodes[x.Path]
	if !is {
		return
	}
	n.acl, n.stat.Aversion = slices.Clone(x.Acl), x.Number
	t.nodes[x.Path] = n
}

// setKids tells a node that its kids changed, and whether there is such a node.
func (t *Tree) setKids(p string, cversion, zxid int) bool {
	n, is := t.nodes[p]
	if !is {
		return false
	}
	n.stat.Cversion, n.stat.Pzxid = cversion, zxid
	t.nodes[p] = n
	return true
}
