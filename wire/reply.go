package wire

import (
	"arboretum/api"
	"arboretum/codec"
)

// putReply lays a reply; its Subs are laid as answers, which have no Subs.
func putReply(w *codec.Writer, p api.Reply) {
	putAnswer(w, p)
	putList(w, p.Subs, putAnswer)
}

func getReply(r *codec.Reader) api.Reply {
	p := getAnswer(r)
	p.Subs = getList(r, getAnswer)
	return p
}

func putAnswer(w *codec.Writer, p api.Reply) {
	putNums(w, p.Xid, p.Zxid)
	putErr(w, p.Err)
	w.Text(p.Path)
	w.Text(p.Data)
	putStat(w, p.Stat)
	putList(w, p.Acl, putAcl)
	putList(w, p.Kids, putText)
}

func getAnswer(r *codec.Reader) api.Reply {
	return api.Reply{
		Xid:  r.Num(),
		Zxid: r.Num(),
		Err:  getErr(r),
		Path: getText(r),
		Data: getText(r),
		Stat: getStat(r),
		Acl:  getList(r, getAcl),
		Kids: getList(r, getText),
	}
}

func putEvent(w *codec.Writer, e api.Event) {
	w.Num(e.Kind)
	w.Text(e.Path)
	w.Num(e.Zxid)
}

func getEvent(r *codec.Reader) api.Event {
	return api.Event{Kind: r.Num(), Path: getText(r), Zxid: r.Num()}
}

func putHello(w *codec.Writer, h api.Hello) {
	putNums(w, h.Session, h.Zxid, h.Timeout)
	w.Text(h.Secret)
}

func getHello(r *codec.Reader) api.Hello {
	return api.Hello{Session: r.Num(), Zxid: r.Num(), Timeout: r.Num(), Secret: getText(r)}
}
