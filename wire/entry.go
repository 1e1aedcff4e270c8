package wire

import (
	"arboretum/api"
	"arboretum/codec"
)

func putEntry(w *codec.Writer, e api.Entry) {
	putNums(w, e.Zxid, e.Session, e.Xid)
	putTxn(w, e.Txn)
}

func getEntry(r *codec.Reader) api.Entry {
	return api.Entry{Zxid: r.Num(), Session: r.Num(), Xid: r.Num(), Txn: getTxn(r)}
}

// putTxn lays a transaction; its Subs are laid as parts, which have no Subs.
func putTxn(w *codec.Writer, t api.Txn) {
	putPart(w, t)
	putList(w, t.Subs, putPart)
}

func getTxn(r *codec.Reader) api.Txn {
	t := getPart(r)
	t.Subs = getList(r, getPart)
	return t
}

func putPart(w *codec.Writer, t api.Txn) {
	w.Num(t.Kind)
	w.Text(t.Path)
	w.Text(t.Data)
	putList(w, t.Acl, putAcl)
	putNums(w, t.Owner, t.Number)
	putErr(w, t.Err)
}

func getPart(r *codec.Reader) api.Txn {
	return api.Txn{
		Kind:   r.Num(),
		Path:   getText(r),
		Data:   getText(r),
		Acl:    getList(r, getAcl),
		Owner:  r.Num(),
		Number: r.Num(),
		Err:    getErr(r),
	}
}
