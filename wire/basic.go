package wire

import (
	"arboretum/api"
	"arboretum/codec"
)

// In all files of this package: a thing is taken up in the order in which it is laid, and Go works the fields of a literal out in the order in which they are written.

func putNums(w *codec.Writer, ns ...int) {
	for _, n := range ns {
		w.Num(n)
	}
}

func putNum(w *codec.Writer, n int) { w.Num(n) }

func getNum(r *codec.Reader) int { return r.Num() }

func putErr(w *codec.Writer, e api.Errno) { w.Num(int(e)) }

func getErr(r *codec.Reader) api.Errno { return api.Errno(r.Num()) }

func putText(w *codec.Writer, s string) { w.Text(s) }

func getText(r *codec.Reader) string { return r.Text(api.MaxText) }

func putAcl(w *codec.Writer, a api.Acl) {
	w.Num(a.Perms)
	w.Text(a.ID)
}

func getAcl(r *codec.Reader) api.Acl {
	return api.Acl{Perms: r.Num(), ID: getText(r)}
}

func putStat(w *codec.Writer, s api.Stat) {
	putNums(w, s.Czxid, s.Mzxid, s.Pzxid, s.Version, s.Cversion, s.Aversion, s.Owner, s.Length, s.Kids)
}

func getStat(r *codec.Reader) api.Stat {
	return api.Stat{
		Czxid: r.Num(), Mzxid: r.Num(), Pzxid: r.Num(),
		Version: r.Num(), Cversion: r.Num(), Aversion: r.Num(),
		Owner:  r.Num(),
		Length: r.Num(), Kids: r.Num(),
	}
}
