package wire_test

import (
	"encoding/binary"
	"reflect"
	"strings"

	"arboretum/api"
)

// The chapter's table of things, gone through step by step: what the package answers is held against it.
const table = `acl: num Perms, text ID
stat: num Czxid, num Mzxid, num Pzxid, num Version, num Cversion, num Aversion, num Owner, num Length, num Kids
part: num Kind, text Path, text Data, list of acl Acl, num Owner, num Number, num Err
txn: a part, list of part Subs
entry: num Zxid, num Session, num Xid, a txn
armed: num Kind, text Path, num Czxid, num Mzxid, num Pzxid
op: num Kind, num Xid, text Path, text Data, list of acl Acl, num Flags, num Version, flag Watch
request: an op, list of op Subs, list of armed Armed
answer: num Xid, num Zxid, num Err, text Path, text Data, a stat, list of acl Acl, list of text Kids
reply: an answer, list of answer Subs
event: num Kind, text Path, num Zxid
hello: num Session, num Zxid, num Timeout, text Secret
message: num Kind, num Epoch, num Zxid, num Number, num Session, list of num Marks, text Data, list of entry Entries, a request, list of text IDs
note: num From, num State, num Round, num Leader, num Epoch, num Zxid`

// field is one of a thing's: kind is num, flag or text, or a thing; name is its name in Go, "" where the thing's own fields stand for it.
type field struct {
	list       bool
	kind, name string
}

func grammar() map[string][]field {
	things := map[string][]field{}
	for _, line := range strings.Split(table, "\n") {
		thing, rest, _ := strings.Cut(line, ": ")
		for _, s := range strings.Split(rest, ", ") {
			words := strings.Fields(s)
			f := field{kind: words[len(words)-2], name: words[len(words)-1]}
			switch {
			case words[0] == "list":
				f.list = true
			case words[0] == "a" || words[0] == "an":
				f.kind, f.name = words[1], ""
				if title := strings.ToUpper(words[1][:1]) + words[1][1:]; title == "Txn" || title == "Stat" || title == "Request" {
					f.name = title
				}
			}
			things[thing] = append(things[thing], f)
		}
	}
	return things
}

var things = grammar()

func within(v reflect.Value, name string) reflect.Value {
	if name == "" {
		return v
	}
	return v.FieldByName(name)
}

// laidAs is what the thing of that kind is laid as.
func laidAs(kind string, v reflect.Value) string {
	switch kind {
	case "num":
		return string(binary.AppendVarint(nil, v.Int()))
	case "flag":
		if v.Bool() {
			return "\x01"
		}
		return "\x00"
	case "text":
		return laidCount(v.Len()) + v.String()
	}
	var s strings.Builder
	for _, f := range things[kind] {
		x := within(v, f.name)
		if !f.list {
			s.WriteString(laidAs(f.kind, x))
			continue
		}
		s.WriteString(laidCount(x.Len()))
		for i := range x.Len() {
			s.WriteString(laidAs(f.kind, x.Index(i)))
		}
	}
	return s.String()
}

func laidCount(n int) string { return string(binary.AppendUvarint(nil, uint64(n))) }

// source is a text that is taken up from its head on.
type source struct {
	rest string
	bad  bool
}

// sevens is 0 where they are none, or not as few as there may be.
func (s *source) sevens() uint64 {
	n, length := binary.Uvarint([]byte(s.rest))
	if s.bad || length <= 0 || string(binary.AppendUvarint(nil, n)) != s.rest[:length] {
		s.bad = true
		return 0
	}
	s.rest = s.rest[length:]
	return n
}

func (s *source) count(most int) int {
	n := s.sevens()
	if n > uint64(most) {
		s.bad = true
	}
	if s.bad {
		return 0
	}
	return int(n)
}

func (s *source) bytes(n int) string {
	if s.bad || n > len(s.rest) {
		s.bad = true
		return ""
	}
	got := s.rest[:n]
	s.rest = s.rest[n:]
	return got
}

// take fills v with a thing of that kind; most is what a text may have.
func (s *source) take(kind string, most int, v reflect.Value) {
	switch kind {
	case "num":
		n, _ := binary.Varint(binary.AppendUvarint(nil, s.sevens()))
		v.SetInt(n)
		return
	case "flag":
		b := s.bytes(1)
		s.bad = s.bad || b[0] > 1
		v.SetBool(b == "\x01")
		return
	case "text":
		v.SetString(s.bytes(s.count(most)))
		return
	}
	for _, f := range things[kind] {
		x := within(v, f.name)
		if f.list {
			n := s.count(api.MaxList)
			x.Set(reflect.MakeSlice(x.Type(), n, n))
			for i := range n {
				s.take(f.kind, api.MaxText, x.Index(i))
			}
			continue
		}
		limit := api.MaxText
		if kind == "message" && f.name == "Data" {
			limit = api.MaxSnap
		}
		s.take(f.kind, limit, x)
	}
}

// takenAs is what the chapter asks of Get: the thing, or false.
func takenAs(kind string, of reflect.Type, s string) (reflect.Value, bool) {
	src := &source{rest: s}
	v := reflect.New(of).Elem()
	src.take(kind, api.MaxText, v)
	if src.bad || src.rest != "" {
		return reflect.New(of).Elem(), false
	}
	return v, true
}

// same holds two things against each other; a list without elements may be nil or not.
func same(a, b reflect.Value) bool {
	switch a.Kind() {
	case reflect.Slice:
		if a.Len() != b.Len() {
			return false
		}
		for i := range a.Len() {
			if !same(a.Index(i), b.Index(i)) {
				return false
			}
		}
		return true
	case reflect.Struct:
		for i := range a.NumField() {
			if !same(a.Field(i), b.Field(i)) {
				return false
			}
		}
		return true
	}
	return a.Interface() == b.Interface()
}

// copied is a copy that shares no list.
func copied(v reflect.Value) reflect.Value {
	c := reflect.New(v.Type()).Elem()
	c.Set(v)
	switch v.Kind() {
	case reflect.Slice:
		if v.IsNil() {
			return c
		}
		c.Set(reflect.MakeSlice(v.Type(), v.Len(), v.Len()))
		for i := range v.Len() {
			c.Index(i).Set(copied(v.Index(i)))
		}
	case reflect.Struct:
		for i := range v.NumField() {
			c.Field(i).Set(copied(v.Field(i)))
		}
	}
	return c
}
