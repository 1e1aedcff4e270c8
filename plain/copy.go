package plain

import (
	"slices"

	"arboretum/api"
)

// copied shares no list with the entries.
func copied(l []api.Entry) []api.Entry {
	l = slices.Clone(l)
	for i := range l {
		l[i].Txn = copiedTxn(l[i].Txn)
	}
	return l
}

func copiedTxn(x api.Txn) api.Txn {
	x.Acl, x.Subs = slices.Clone(x.Acl), slices.Clone(x.Subs)
	for i := range x.Subs {
		x.Subs[i] = copiedTxn(x.Subs[i])
	}
	return x
}
