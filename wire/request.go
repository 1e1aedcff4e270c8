package wire

import (
	"arboretum/api"
	"arboretum/codec"
)

// putRequest lays a request; its Subs are laid as ops, which have neither Subs nor Armed.
func putRequest(w *codec.Writer, q api.Request) {
	putOp(w, q)
	putList(w, q.Subs, putOp)
	putList(w, q.Armed, putArmed)
}

func getRequest(r *codec.Reader) api.Request {
	q := getOp(r)
	q.Subs = getList(r, getOp)
	q.Armed = getList(r, getArmed)
	return q
}

func putOp(w *codec.Writer, q api.Request) {
	putNums(w, q.Kind, q.Xid)
	w.Text(q.Path)
	w.Text(q.Data)
	putList(w, q.Acl, putAcl)
	putNums(w, q.Flags, q.Version)
	w.Flag(q.Watch)
}

func getOp(r *codec.Reader) api.Request {
	return api.Request{
		Kind:    r.Num(),
		Xid:     r.Num(),
		Path:    getText(r),
		Data:    getText(r),
		Acl:     getList(r, getAcl),
		Flags:   r.Num(),
		Version: r.Num(),
		Watch:   r.Flag(),
	}
}

func putArmed(w *codec.Writer, a api.Armed) {
	w.Num(a.Kind)
	w.Text(a.Path)
	putNums(w, a.Czxid, a.Mzxid, a.Pzxid)
}

func getArmed(r *codec.Reader) api.Armed {
	return api.Armed{Kind: r.Num(), Path: getText(r), Czxid: r.Num(), Mzxid: r.Num(), Pzxid: r.Num()}
}
