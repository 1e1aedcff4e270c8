package prep

import (
	"slices"

	"arboretum/api"
)

// change is what becomes of requests of one kind.
type change struct {
	kind  int
	whole func(a asker, r api.Request) api.Txn   // of one by itself; nil: it may not stand so
	wrong func(a asker, r api.Request) api.Errno // what a part is refused for
	part  func(a asker, r api.Request) api.Txn   // what it is, if nothing is wrong; nil: it may not be a part
}

func changes() []change {
	return []change{
		{kind: api.ReqCreate, whole: alone, wrong: wrongCreate, part: create},
		{kind: api.ReqDelete, whole: alone, wrong: wrongDelete, part: remove},
		{kind: api.ReqSet, whole: alone, wrong: wrongSet, part: set},
		{kind: api.ReqSetAcl, whole: alone, wrong: wrongSetAcl, part: setAcl},
		{kind: api.ReqCheck, wrong: wrongCheck, part: noop},
		{kind: api.ReqMulti, whole: multi},
		{kind: api.ReqSync, whole: noop},
		{kind: api.ReqClose, whole: closing},
	}
}

// changeOf has no functions, if there is nothing that requests of a kind change.
func changeOf(kind int) change {
	for _, c := range changes() {
		if c.kind == kind {
			return c
		}
	}
	return change{}
}

// partOf is the transaction of a part, or what it is refused for.
func partOf(a asker, r api.Request) (api.Txn, api.Errno) {
	c := changeOf(r.Kind)
	if c.part == nil {
		return api.Txn{}, api.ErrPrepKind
	}
	if e := c.wrong(a, r); e != api.OK {
		return api.Txn{}, e
	}
	return c.part(a, r), api.OK
}

// alone is a request that is one part by itself.
func alone(a asker, r api.Request) api.Txn {
	x, e := partOf(a, r)
	if e != api.OK {
		return refusal(e, noPart)
	}
	return x
}

// multi goes from part to part, in a tree that has those ahead.
func multi(a asker, r api.Request) api.Txn {
	if len(r.Subs) < 1 || len(r.Subs) > api.MaxOps {
		return refusal(api.ErrArg, noPart)
	}
	a = a.apart()
	x := api.Txn{Kind: api.TxnMulti}
	for i, sub := range r.Subs {
		part, e := partOf(a, sub)
		if e != api.OK {
			return refusal(e, i)
		}
		a.do(part)
		x.Subs = append(x.Subs, part)
	}
	return x
}

// closing takes a session's ephemerals away with it, and asks nobody whether he may.
func closing(a asker, _ api.Request) api.Txn {
	owned := a.tree.Owned(a.session)
	slices.Reverse(owned)
	a = a.apart()
	x := api.Txn{Kind: api.TxnClose, Owner: a.session}
	for _, p := range owned {
		part := deletion(a, p)
		a.do(part)
		x.Subs = append(x.Subs, part)
	}
	return x
}

func noop(asker, api.Request) api.Txn { return api.Txn{Kind: api.TxnNoop} }
