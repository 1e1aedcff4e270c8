package snap

import (
	"slices"

	"arboretum/tree"
)

// Fuzzy is a tree that is being laid while it changes. Of a nil tree it is nil, has nothing to lay, and is never done.
type Fuzzy struct {
	tree   *tree.Tree
	from   int
	last   string         // the path of the node that was laid last
	lay    func(p string) // lays one node more
	gather func() string  // the snapshot of what was laid so far, with the sessions as they are
	text   string         // empty, as long as not all is laid
}

// Begin begins: nothing is laid yet.
func Begin(t *tree.Tree) *Fuzzy {
	if t == nil {
		return nil
	}
	f := &Fuzzy{tree: t, from: t.Zxid()}
	f.lay, f.gather = gatherer(t)
	return f
}

// Step lays so many nodes more, and then the sessions, as they are now: is all laid?
func (f *Fuzzy) Step(n int) bool {
	if f == nil {
		return false
	}
	if f.text == "" {
		f.layMore(max(n, 0))
	}
	return f.text != ""
}

func (f *Fuzzy) layMore(n int) {
	left := f.left()
	for _, p := range left[:min(n, len(left))] {
		f.lay(p)
		f.last = p
	}
	if n > len(left) {
		*f = Fuzzy{from: f.from, text: f.gather()} // nothing is asked of the tree any more
	}
}

// left are the paths that are to be laid, as far as one can tell now: those that come up later behind the last one will be, too, those ahead of it will not.
func (f *Fuzzy) left() []string {
	paths := f.tree.Paths()
	i, there := slices.BinarySearch(paths, f.last)
	if there {
		i++
	}
	return paths[i:]
}

// Text is what was laid, when all is.
func (f *Fuzzy) Text() string {
	if f == nil {
		return ""
	}
	return f.text
}

// From is the zxid of the tree when it was begun: the entries behind it mend what was laid.
func (f *Fuzzy) From() int {
	if f == nil {
		return 0
	}
	return f.from
}
