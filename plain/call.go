package plain

import (
	"slices"

	"arboretum/acl"
	"arboretum/api"
	"arboretum/prep"
)

// maxIDs is how many IDs a session may have. No limit of api's is meant for it.
const maxIDs = 16

func (s *service) call(session int, r api.Request) (api.Reply, api.Errno) {
	h, is := s.holders[session]
	if !is {
		return api.Reply{}, api.ErrTreeGone
	}
	if prep.Changes(r.Kind) {
		return s.change(session, h, r), api.OK
	}
	switch r.Kind {
	case api.ReqAuth:
		return s.brief(r, h.auth(r.Path, r.Data)), api.OK
	case api.ReqArm:
		h.events = append(h.events, s.Arm(session, s.Tree, r.Armed...)...)
		return s.brief(r, api.OK), api.OK
	case api.ReqPing:
		return s.brief(r, api.OK), api.OK
	}
	return s.read(session, h, r), api.OK
}

func (s *service) change(session int, h *holder, r api.Request) api.Reply {
	return prep.Reply(s.Tree, s.order(session, r.Xid, prep.Txn(s.Tree, session, h.ids, r)))
}

// auth gives a session an ID more.
func (h *holder) auth(name, secret string) api.Errno {
	id, e := acl.Digest(name, secret)
	if e != api.OK || slices.Contains(h.ids, id) {
		return e
	}
	if len(h.ids) >= maxIDs {
		return api.ErrArg
	}
	h.ids = append(h.ids, id)
	return api.OK
}

// read lays a watch on what it tells of, if one is wished for. Where there is no room for it nothing is told: whoever reads so counts on the watch.
func (s *service) read(session int, h *holder, r api.Request) api.Reply {
	answer := prep.Read(s.Tree, h.ids, r)
	kind := watchOf(r.Kind, answer.Err)
	if !r.Watch || kind == 0 {
		return answer
	}
	if e := s.Add(session, kind, r.Path); e != api.OK {
		return s.brief(r, e)
	}
	return answer
}

// watchOf is the kind of the watch that a reading may lay, by what it was answered; 0: none.
func watchOf(kind int, e api.Errno) int {
	switch {
	case kind == api.ReqExists && e == api.ErrTreeNone:
		return api.WatchExist
	case e != api.OK:
		return 0
	case kind == api.ReqGet || kind == api.ReqExists:
		return api.WatchData
	case kind == api.ReqKids:
		return api.WatchKids
	}
	return 0
}

// brief is an answer that tells what every one tells, and an error.
func (s *service) brief(r api.Request, e api.Errno) api.Reply {
	return api.Reply{Xid: r.Xid, Zxid: s.Zxid(), Err: e}
}
