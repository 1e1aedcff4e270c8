package watch

import (
	"arboretum/api"
	"arboretum/tree"
)

// Arm lays watches anew that were laid elsewhere: what has happened to them since is told at once.
func (t *Table) Arm(session int, now *tree.Tree, l ...api.Armed) []api.Event {
	if session < 1 || now == nil {
		return nil
	}
	var events []api.Event
	told := map[api.Event]struct{}{} // the same as events, of which there may be too many to go through each time
	for _, a := range l {
		if !isWatch(a.Kind, a.Path) {
			continue
		}
		kind, zxid := since(now, a)
		if kind == 0 {
			t.Add(session, a.Kind, a.Path) // if the session is full, nobody is told
			continue
		}
		e := api.Event{Kind: kind, Path: a.Path, Zxid: zxid}
		if _, was := told[e]; !was {
			told[e] = struct{}{}
			events = append(events, e)
		}
	}
	return events
}

// since is the kind and zxid of what has happened to a watch since it was laid; 0 and 0: nothing.
func since(now *tree.Tree, a api.Armed) (int, int) {
	s, is := now.Stat(a.Path)
	switch {
	case a.Kind == api.WatchExist && is:
		return api.EventCreated, s.Czxid
	case a.Kind == api.WatchExist: // there was no node, and there is none
	case !is || s.Czxid != a.Czxid:
		return api.EventDeleted, now.Zxid()
	case a.Kind == api.WatchKids && s.Pzxid != a.Pzxid:
		return api.EventKids, s.Pzxid
	case a.Kind == api.WatchData && s.Mzxid != a.Mzxid:
		return api.EventData, s.Mzxid
	}
	return 0, 0
}
