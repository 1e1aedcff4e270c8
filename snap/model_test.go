package snap_test

import (
	"encoding/binary"
	"slices"
	"strings"
	"testing"

	"arboretum/api"
	"arboretum/path"
	"arboretum/tree"
)

// The chapter's words, done step by step: what the package answers is held against it.

// shot is what a snapshot tells.
type shot struct {
	zxid    int
	nodes   []leaf
	holders []holder
}

// leaf is a node, its Stat without Length and Kids.
type leaf struct {
	path, data string
	rows       []api.Acl
	stat       api.Stat
}

type holder struct {
	id, timeout int
	secret      string
}

func leafOf(x *tree.Tree, p string) leaf {
	data, s, _ := x.Get(p)
	rows, _ := x.Acl(p)
	s.Length, s.Kids = 0, 0
	return leaf{p, data, rows, s}
}

func holdersOf(x *tree.Tree) []holder {
	l := []holder{}
	for _, id := range x.Sessions() {
		timeout, secret, _ := x.Session(id)
		l = append(l, holder{id, timeout, secret})
	}
	return l
}

func shotOf(x *tree.Tree) shot {
	s := shot{zxid: x.Zxid(), holders: holdersOf(x)}
	for _, p := range x.Paths() {
		s.nodes = append(s.nodes, leafOf(x, p))
	}
	return s
}

// tree is that of a shot that is right.
func (s shot) tree() *tree.Tree {
	x := tree.New()
	x.LayZxid(s.zxid)
	for _, n := range s.nodes {
		x.Lay(n.path, n.data, n.rows, n.stat)
	}
	for _, h := range s.holders {
		x.LaySession(h.id, h.timeout, h.secret)
	}
	return x
}

func withText(b []byte, s string) []byte {
	return append(binary.AppendUvarint(b, uint64(len(s))), s...)
}

func (n leaf) laid(b []byte) []byte {
	b = withText(withText(b, n.path), n.data)
	b = binary.AppendUvarint(b, uint64(len(n.rows)))
	for _, row := range n.rows {
		b = withText(binary.AppendVarint(b, int64(row.Perms)), row.ID)
	}
	s := n.stat
	for _, n := range []int{s.Czxid, s.Mzxid, s.Pzxid, s.Version, s.Cversion, s.Aversion, s.Owner} {
		b = binary.AppendVarint(b, int64(n))
	}
	return b
}

// text lays a shot, be it right or not.
func (s shot) text() string {
	b := binary.AppendVarint([]byte("\x04TREE"), int64(s.zxid))
	b = binary.AppendUvarint(b, uint64(len(s.nodes)))
	for _, n := range s.nodes {
		b = n.laid(b)
	}
	b = binary.AppendUvarint(b, uint64(len(s.holders)))
	for _, h := range s.holders {
		b = binary.AppendVarint(binary.AppendVarint(b, int64(h.id)), int64(h.timeout))
		b = withText(b, h.secret)
	}
	return string(b)
}

func (s shot) right() bool {
	if len(s.nodes) == 0 || len(s.nodes) > 256 || len(s.holders) > 256 || s.nodes[0].path != "/" {
		return false
	}
	for i, n := range s.nodes {
		if path.Check(n.path) != api.OK || len(n.data) > 4096 || len(n.rows) > 256 {
			return false
		}
		if i > 0 && n.path <= s.nodes[i-1].path {
			return false
		}
		if slices.ContainsFunc(n.rows, func(row api.Acl) bool { return len(row.ID) > 4096 }) {
			return false
		}
	}
	for i, h := range s.holders {
		if h.id <= 0 || len(h.secret) > 4096 || i > 0 && h.id <= s.holders[i-1].id {
			return false
		}
	}
	return true
}

func (s shot) whole() bool {
	for _, n := range s.nodes {
		if n.path != "/" && !slices.ContainsFunc(s.nodes, func(m leaf) bool { return m.path == path.Parent(n.path) }) {
			return false
		}
	}
	return true
}

// parser goes through a text without asking for more than that it may go on; whether a text is laid as it must be is found out by laying it again.
type parser struct {
	left string
	bad  bool
}

func (p *parser) uint() uint64 {
	n, size := binary.Uvarint([]byte(p.left[:min(len(p.left), 10)]))
	if size <= 0 {
		p.bad = true
		return 0
	}
	p.left = p.left[size:]
	return n
}

func (p *parser) int() int {
	n := p.uint()
	return int(n>>1) ^ -int(n&1)
}

func (p *parser) text() string {
	n := p.uint()
	if n > uint64(len(p.left)) {
		p.bad = true
		return ""
	}
	s := p.left[:n]
	p.left = p.left[n:]
	return s
}

func (p *parser) node() leaf {
	n := leaf{path: p.text(), data: p.text()}
	for i := p.uint(); i > 0 && !p.bad; i-- {
		n.rows = append(n.rows, api.Acl{Perms: p.int(), ID: p.text()})
	}
	s := &n.stat
	for _, to := range []*int{&s.Czxid, &s.Mzxid, &s.Pzxid, &s.Version, &s.Cversion, &s.Aversion, &s.Owner} {
		*to = p.int()
	}
	return n
}

// parsed is the shot of a text, and whether it is right.
func parsed(text string) (shot, bool) {
	if !strings.HasPrefix(text, "\x04TREE") {
		return shot{}, false
	}
	p := &parser{left: text[5:]}
	s := shot{zxid: p.int()}
	for i := p.uint(); i > 0 && !p.bad; i-- {
		s.nodes = append(s.nodes, p.node())
	}
	for i := p.uint(); i > 0 && !p.bad; i-- {
		s.holders = append(s.holders, holder{p.int(), p.int(), p.text()})
	}
	return s, !p.bad && p.left == "" && s.text() == text && s.right()
}

// stepper is a fuzzy snapshot that looks at the whole tree for each thing that it lays.
type stepper struct {
	x    *tree.Tree
	s    shot
	last string
	all  bool
}

func begun(x *tree.Tree) *stepper { return &stepper{x: x, s: shot{zxid: x.Zxid()}} }

func (f *stepper) step(n int) bool {
	for ; n > 0 && !f.all; n-- {
		f.one()
	}
	return f.all
}

func (f *stepper) one() {
	for _, p := range f.x.Paths() {
		if p > f.last {
			f.s.nodes = append(f.s.nodes, leafOf(f.x, p))
			f.last = p
			return
		}
	}
	f.s.holders, f.all = holdersOf(f.x), true
}

func (f *stepper) text() string {
	if !f.all {
		return ""
	}
	return f.s.text()
}

// TestModel: the model itself tells the chapter's first example, and takes up what it lays.
func TestModel(t *testing.T) {
	s := shotOf(tree.New())
	if s.text() != ofNew {
		t.Errorf("%q", s.text())
	}
	for _, x := range trees() {
		s := shotOf(x)
		if again, _ := parsed(s.text()); again.text() != s.text() {
			t.Errorf("%.200q", again.text())
		}
		if s.right() && !s.tree().Same(x) {
			t.Errorf("not the tree of %.200q", s.text())
		}
	}
}
