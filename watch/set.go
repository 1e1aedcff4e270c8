package watch

import (
	"arboretum/api"
	"arboretum/path"
)

// watch is one that a session has; whose it is, is told by where it stands.
type watch struct {
	kind int
	path string
}

// watches are those of one session.
type watches map[watch]struct{}

// isWatch: may there be a watch of a kind on a path?
func isWatch(kind int, p string) bool {
	return kind >= api.WatchData && kind <= api.WatchKids && path.Check(p) == api.OK
}

// met are the kinds of watches that an event of a kind meets.
func met(event int) []int {
	switch event {
	case api.EventCreated:
		return []int{api.WatchExist}
	case api.EventDeleted:
		return []int{api.WatchData, api.WatchExist, api.WatchKids}
	case api.EventData:
		return []int{api.WatchData, api.WatchExist}
	case api.EventKids:
		return []int{api.WatchKids}
	}
	return nil
}

// put lays a watch that the session has not.
func (t *Table) put(session int, w watch) {
	if t.Count(session) == 0 {
		t.sessions[session] = watches{}
	}
	t.sessions[session][w] = struct{}{}
}

// take takes a session's watches of some kinds on a path away: had it any of them?
func (t *Table) take(session int, p string, kinds ...int) bool {
	had := t.Count(session)
	for _, kind := range kinds {
		delete(t.sessions[session], watch{kind: kind, path: p})
	}
	left := t.Count(session)
	if left == 0 {
		t.Drop(session)
	}
	return left < had
}
