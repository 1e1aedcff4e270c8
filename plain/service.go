package plain

import (
	"arboretum/api"
	"arboretum/prep"
	"arboretum/tree"
	"arboretum/watch"
)

// before is the zxid ahead of the first entry's: a service is of one epoch for ever.
const before = 1 << 32

// service is what is behind the calls: what each entry changes is embedded.
type service struct {
	*tree.Tree
	*watch.Table
	entries []api.Entry
	opened  int
	holders map[int]*holder // one of each session that the tree has
}

// holder is what a session has that is neither in the tree nor in the table.
type holder struct {
	ids    []string
	events []api.Event // not told yet
}

func begun() service {
	return service{Tree: tree.New(), Table: watch.New(), holders: map[int]*holder{}}
}

// order makes an entry, and does it: the tree is changed here alone.
func (s *service) order(session, xid int, x api.Txn) api.Entry {
	e := api.Entry{Zxid: before + len(s.entries) + 1, Session: session, Xid: xid, Txn: x}
	s.entries = append(s.entries, e)
	events, _ := s.Apply(e) // what was refused is told by the reply
	for _, told := range s.Fire(events...) {
		h := s.holders[told.Session] // only who has one lays watches, and they go together
		h.events = append(h.events, told.Event)
	}
	if x.Kind == api.TxnClose {
		s.Drop(x.Owner)
		delete(s.holders, x.Owner)
	}
	return e
}

// open counts those that were opened, so that no number comes twice.
func (s *service) open(timeout int) (int, api.Errno) {
	if len(s.Sessions()) >= api.MaxSessions {
		return 0, api.ErrSessionFull
	}
	s.opened++
	s.holders[s.opened] = &holder{}
	timeout = min(max(timeout, api.MinTimeout), api.MaxTimeout)
	s.order(s.opened, 0, api.Txn{Kind: api.TxnOpen, Owner: s.opened, Number: timeout})
	return s.opened, api.OK
}

func (s *service) expire(session int) api.Errno {
	if _, is := s.holders[session]; !is {
		return api.ErrTreeGone
	}
	s.order(session, 0, prep.Txn(s.Tree, session, nil, api.Request{Kind: api.ReqClose}))
	return api.OK
}

// tell gives a session's events away, and keeps none of them.
func (s *service) tell(session int) []api.Event {
	h, is := s.holders[session]
	if !is {
		return nil
	}
	events := h.events
	h.events = nil
	return events
}
