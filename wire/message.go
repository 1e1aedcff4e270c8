package wire

import (
	"arboretum/api"
	"arboretum/codec"
)

func putMessage(w *codec.Writer, m api.Message) {
	putNums(w, m.Kind, m.Epoch, m.Zxid, m.Number, m.Session)
	putList(w, m.Marks, putNum)
	w.Text(m.Data)
	putList(w, m.Entries, putEntry)
	putRequest(w, m.Request)
	putList(w, m.IDs, putText)
}

// getMessage takes longer Data than any other text: a snapshot is sent whole.
func getMessage(r *codec.Reader) api.Message {
	return api.Message{
		Kind:    r.Num(),
		Epoch:   r.Num(),
		Zxid:    r.Num(),
		Number:  r.Num(),
		Session: r.Num(),
		Marks:   getList(r, getNum),
		Data:    r.Text(api.MaxSnap),
		Entries: getList(r, getEntry),
		Request: getRequest(r),
		IDs:     getList(r, getText),
	}
}

func putNote(w *codec.Writer, n api.Note) {
	putNums(w, n.From, n.State, n.Round, n.Leader, n.Epoch, n.Zxid)
}

func getNote(r *codec.Reader) api.Note {
	return api.Note{From: r.Num(), State: r.Num(), Round: r.Num(), Leader: r.Num(), Epoch: r.Num(), Zxid: r.Num()}
}
