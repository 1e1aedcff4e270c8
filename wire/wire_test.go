package wire_test

import (
	"math"
	"math/rand"
	"reflect"
	"strings"
	"testing"

	"arboretum/api"
	"arboretum/wire"
)

// kind is one of the seven things that have a Put and a Get.
type kind struct {
	name string
	of   reflect.Type
	put  func(v reflect.Value) string
	get  func(s string) (reflect.Value, api.Errno)
}

func kindOf[T any](name string, put func(T) string, get func(string) (T, api.Errno)) kind {
	return kind{
		name: name,
		of:   reflect.TypeFor[T](),
		put:  func(v reflect.Value) string { return put(v.Interface().(T)) },
		get: func(s string) (reflect.Value, api.Errno) {
			x, e := get(s)
			v := reflect.New(reflect.TypeFor[T]()).Elem() // one whose fields may be set
			v.Set(reflect.ValueOf(x))
			return v, e
		},
	}
}

func kinds() []kind {
	return []kind{
		kindOf("entry", wire.PutEntry, wire.GetEntry),
		kindOf("request", wire.PutRequest, wire.GetRequest),
		kindOf("reply", wire.PutReply, wire.GetReply),
		kindOf("event", wire.PutEvent, wire.GetEvent),
		kindOf("hello", wire.PutHello, wire.GetHello),
		kindOf("message", wire.PutMessage, wire.GetMessage),
		kindOf("note", wire.PutNote, wire.GetNote),
	}
}

// spot is a field of a thing, and where it stands.
type spot struct {
	name string
	v    reflect.Value
	left bool // it is left out: a Sub's Subs or Armed, or within them
}

// spots are all of a thing's fields, and those of its lists' elements.
func spots(k kind, v reflect.Value) []spot { return spotsWithin(k.name, v, false, false) }

func spotsWithin(name string, v reflect.Value, sub, left bool) []spot {
	subs, armed := strings.HasSuffix(name, ".Subs"), strings.HasSuffix(name, ".Armed")
	switch v.Kind() {
	case reflect.Struct:
		var l []spot
		for i := range v.NumField() {
			l = append(l, spotsWithin(name+"."+v.Type().Field(i).Name, v.Field(i), sub, left)...)
		}
		return l
	case reflect.Slice:
		left = left || sub && (subs || armed)
		l := []spot{{name, v, left}}
		for i := range v.Len() {
			l = append(l, spotsWithin(name+"[]", v.Index(i), sub || subs, left)...)
		}
		return l
	}
	return []spot{{name, v, left}}
}

// held is what stands in a field: of a list, not what stands in the list.
func held(v reflect.Value) reflect.Value {
	h := reflect.New(v.Type()).Elem()
	h.Set(v)
	return h
}

// someText has bytes of all kinds, and lengths at which the count of them grows.
func someText(r *rand.Rand) string {
	l := make([]byte, []int{0, 0, 1, 2, 5, 127, 128, 300}[r.Intn(8)])
	for i := range l {
		l[i] = byte(r.Intn(256))
	}
	return string(l)
}

func someNum(r *rand.Rand) int64 {
	n := int64(r.Uint64() >> r.Intn(64))
	if r.Intn(8) == 0 {
		return []int64{0, 1, -1, 63, -64, 64, math.MaxInt64, math.MinInt64}[r.Intn(8)]
	}
	return n
}

// fill makes v a thing by chance that fits; subs tells whether it may have Subs and Armed.
func fill(r *rand.Rand, v reflect.Value, most int, subs bool) {
	switch v.Kind() {
	case reflect.Int:
		v.SetInt(someNum(r))
	case reflect.Bool:
		v.SetBool(r.Intn(2) == 0)
	case reflect.String:
		v.SetString(someText(r))
	case reflect.Slice:
		n := r.Intn(most + 1)
		v.Set(reflect.MakeSlice(v.Type(), n, n+r.Intn(3)))
		for i := range n {
			fill(r, v.Index(i), most, subs)
		}
	case reflect.Struct:
		for i := range v.NumField() {
			name := v.Type().Field(i).Name
			switch {
			case name == "Subs" && subs:
				n := r.Intn(most + 1)
				v.Field(i).Set(reflect.MakeSlice(v.Field(i).Type(), n, n))
				for k := range n {
					fill(r, v.Field(i).Index(k), most, false)
				}
			case name == "Subs" || name == "Armed" && !subs:
			default:
				fill(r, v.Field(i), most, subs)
			}
		}
	}
}

func some(r *rand.Rand, k kind, most int) reflect.Value {
	v := reflect.New(k.of).Elem()
	fill(r, v, most, true)
	return v
}

// full is a thing with exactly n elements in each of its lists, and Subs two deep.
func full(of reflect.Type, n, deep int) reflect.Value {
	v := reflect.New(of).Elem()
	for i := range v.NumField() {
		f := v.Field(i)
		switch f.Kind() {
		case reflect.Struct:
			f.Set(full(f.Type(), n, deep))
		case reflect.Slice:
			if deep == 0 && (v.Type().Field(i).Name == "Subs" || v.Type().Field(i).Name == "Armed") {
				continue
			}
			f.Set(reflect.MakeSlice(f.Type(), n, n))
			for j := range n {
				if f.Index(j).Kind() == reflect.Struct {
					below := deep
					if v.Type().Field(i).Name == "Subs" {
						below--
					}
					f.Index(j).Set(full(f.Index(j).Type(), n, below))
				}
			}
		}
	}
	return v
}

func TestW1Examples(t *testing.T) {
	if got, want := wire.PutEvent(api.Event{Kind: 3, Path: "/a", Zxid: 7}), string([]byte{6, 2, 47, 97, 14}); got != want {
		t.Errorf("PutEvent: %q, want %q", got, want)
	}
	if got, want := wire.PutNote(api.Note{From: 1, State: 2, Round: 3, Leader: 4, Epoch: 5, Zxid: 6}), string([]byte{2, 4, 6, 8, 10, 12}); got != want {
		t.Errorf("PutNote: %q, want %q", got, want)
	}
	if got, want := wire.PutHello(api.Hello{Session: 1, Timeout: 10, Secret: "s"}), string([]byte{2, 0, 20, 1, 115}); got != want {
		t.Errorf("PutHello: %q, want %q", got, want)
	}
}

// TestW1ByHand: each thing with unlike fields, laid by hand.
func TestW1ByHand(t *testing.T) {
	acl := []api.Acl{{Perms: 31, ID: "w"}, {Perms: -1, ID: ""}}
	const laidAcl = "\x02\x3e\x01w\x01\x00"
	txn := api.Txn{Kind: 1, Path: "p", Data: "d", Acl: acl, Owner: 2, Number: 3, Err: 4, Subs: []api.Txn{{Kind: 5, Path: "q", Data: "e", Owner: 6, Number: 7, Err: -8}, {}}}
	const laidTxn = "\x02\x01p\x01d" + laidAcl + "\x04\x06\x08" + "\x02" + "\x0a\x01q\x01e\x00\x0c\x0e\x0f" + "\x00\x00\x00\x00\x00\x00\x00"
	request := api.Request{Kind: 1, Xid: 2, Path: "p", Data: "d", Acl: acl, Flags: 3, Version: 4, Watch: true,
		Subs:  []api.Request{{Kind: 5, Xid: 6, Path: "q", Data: "e", Acl: acl, Flags: 7, Version: 8}},
		Armed: []api.Armed{{Kind: 9, Path: "r", Czxid: 10, Mzxid: 11, Pzxid: 12}}}
	const laidRequest = "\x02\x04\x01p\x01d" + laidAcl + "\x06\x08\x01" + "\x01" + "\x0a\x0c\x01q\x01e" + laidAcl + "\x0e\x10\x00" + "\x01" + "\x12\x01r\x14\x16\x18"
	stat := api.Stat{Czxid: 1, Mzxid: 2, Pzxid: 3, Version: 4, Cversion: 5, Aversion: 6, Owner: 7, Length: 8, Kids: 9}
	const laidStat = "\x02\x04\x06\x08\x0a\x0c\x0e\x10\x12"
	reply := api.Reply{Xid: 1, Zxid: 2, Err: 3, Path: "p", Data: "d", Stat: stat, Acl: acl, Kids: []string{"a", "bc"}, Subs: []api.Reply{{Xid: 4, Zxid: 5, Err: 6, Path: "q", Data: "e", Stat: stat, Acl: acl, Kids: []string{""}}}}
	const laidReply = "\x02\x04\x06\x01p\x01d" + laidStat + laidAcl + "\x02\x01a\x02bc" + "\x01" + "\x08\x0a\x0c\x01q\x01e" + laidStat + laidAcl + "\x01\x00"
	message := api.Message{Kind: 1, Epoch: 2, Zxid: 3, Number: 4, Session: 5, Marks: []int{6, -7}, Data: "d", Entries: []api.Entry{{Zxid: 8, Session: 9, Xid: 10, Txn: txn}}, Request: request, IDs: []string{"world", ""}}
	const laidMessage = "\x02\x04\x06\x08\x0a" + "\x02\x0c\x0d" + "\x01d" + "\x01\x10\x12\x14" + laidTxn + laidRequest + "\x02\x05world\x00"
	for _, c := range []struct{ name, got, want string }{
		{"PutEntry", wire.PutEntry(api.Entry{Zxid: 8, Session: 9, Xid: 10, Txn: txn}), "\x10\x12\x14" + laidTxn},
		{"PutRequest", wire.PutRequest(request), laidRequest},
		{"PutReply", wire.PutReply(reply), laidReply},
		{"PutEvent", wire.PutEvent(api.Event{Kind: -1, Path: "", Zxid: 64}), "\x01\x00\x80\x01"},
		{"PutHello", wire.PutHello(api.Hello{Session: 1, Zxid: 2, Timeout: 3, Secret: "s"}), "\x02\x04\x06\x01s"},
		{"PutMessage", wire.PutMessage(message), laidMessage},
	} {
		if c.got != c.want {
			t.Errorf("%s: %q, want %q", c.name, c.got, c.want)
		}
	}
}

func TestW1Nothing(t *testing.T) {
	for _, k := range kinds() {
		zero := reflect.New(k.of).Elem()
		want := laidAs(k.name, zero)
		if got := k.put(zero); got != want || strings.Trim(got, "\x00") != "" {
			t.Errorf("%s of nothing: %q, want %q", k.name, got, want)
		}
		if got := k.put(full(k.of, 0, 1)); got != want {
			t.Errorf("%s with lists without elements: %q, want %q", k.name, got, want)
		}
	}
}

// TestW1EachField: a change of one field changes what is laid, and it stands where the table says.
func TestW1EachField(t *testing.T) {
	for _, k := range kinds() {
		v := full(k.of, 2, 2)
		for _, s := range spots(k, v) {
			old := held(s.v)
			before := k.put(v)
			switch s.v.Kind() {
			case reflect.Int:
				s.v.SetInt(math.MinInt64)
			case reflect.Bool:
				s.v.SetBool(true)
			case reflect.String:
				s.v.SetString("\xffa\x00")
			case reflect.Slice:
				s.v.Set(reflect.MakeSlice(s.v.Type(), 1, 1))
			}
			got := k.put(v)
			if got != laidAs(k.name, v) {
				t.Errorf("%s: not laid as the table says", s.name)
			}
			if seen := got != before; seen == s.left {
				t.Errorf("%s: changed what is laid: %t", s.name, seen)
			}
			s.v.Set(old)
		}
	}
}

func TestW1ByChance(t *testing.T) {
	r := rand.New(rand.NewSource(1))
	for _, k := range kinds() {
		for range 300 {
			v := some(r, k, 3)
			if got, want := k.put(v), laidAs(k.name, v); got != want {
				t.Fatalf("%s %+v: %q, want %q", k.name, v, got, want)
			}
		}
	}
}

// TestW1SubsOfSubs: what a Sub has of Subs or Armed is left out, however deep.
func TestW1SubsOfSubs(t *testing.T) {
	txn := api.Txn{Kind: api.TxnMulti, Subs: []api.Txn{{Kind: 1, Subs: []api.Txn{{Kind: 2, Subs: []api.Txn{{}}}}}, {Kind: 3}}}
	bare := api.Txn{Kind: api.TxnMulti, Subs: []api.Txn{{Kind: 1}, {Kind: 3}}}
	if got, want := wire.PutEntry(api.Entry{Txn: txn}), wire.PutEntry(api.Entry{Txn: bare}); got != want {
		t.Errorf("PutEntry: %q, want %q", got, want)
	}
	armed := []api.Armed{{Kind: 1, Path: "/a"}}
	request := api.Request{Subs: []api.Request{{Kind: 1, Subs: []api.Request{{Armed: armed}}}, {Kind: 2, Armed: armed}}, Armed: armed}
	plain := api.Request{Subs: []api.Request{{Kind: 1}, {Kind: 2}}, Armed: armed}
	if got, want := wire.PutRequest(request), wire.PutRequest(plain); got != want {
		t.Errorf("PutRequest: %q, want %q", got, want)
	}
	reply := api.Reply{Subs: []api.Reply{{Xid: 1, Subs: []api.Reply{{}, {}}}}}
	if got, want := wire.PutReply(reply), wire.PutReply(api.Reply{Subs: []api.Reply{{Xid: 1}}}); got != want {
		t.Errorf("PutReply: %q, want %q", got, want)
	}
	message := api.Message{Entries: []api.Entry{{Txn: txn}}, Request: request}
	if got, want := wire.PutMessage(message), wire.PutMessage(api.Message{Entries: []api.Entry{{Txn: bare}}, Request: plain}); got != want {
		t.Errorf("PutMessage: %q, want %q", got, want)
	}
}

// check holds Get of s against the chapter's words, and Put of what it took up against s.
func check(t *testing.T, k kind, s string) bool {
	t.Helper()
	got, e := k.get(s)
	want, ok := takenAs(k.name, k.of, s)
	if ok != (e == api.OK) || !ok && e != api.ErrWireForm || !same(got, want) {
		t.Fatalf("%s of %.80q (%d bytes): %.200v, %d, want %.200v, %t", k.name, s, len(s), got, e, want, ok)
	}
	if ok && k.put(got) != s {
		t.Fatalf("%s of %.80q (%d bytes): laid again it is another text", k.name, s, len(s))
	}
	return ok
}

func TestW2Example(t *testing.T) {
	s := string([]byte{6, 2, 47, 97, 14})
	if e, f := wire.GetEvent(s); e != (api.Event{Kind: 3, Path: "/a", Zxid: 7}) || f != api.OK {
		t.Errorf("GetEvent: %+v, %d", e, f)
	}
	for b := range 256 {
		if e, f := wire.GetEvent(s + string([]byte{byte(b)})); e != (api.Event{}) || f != api.ErrWireForm {
			t.Errorf("GetEvent with one more byte: %+v, %d", e, f)
		}
	}
}

// TestW2ShortAndLong: no beginning of what is laid is taken up, nor anything behind it.
func TestW2ShortAndLong(t *testing.T) {
	r := rand.New(rand.NewSource(2))
	for _, k := range kinds() {
		for range 8 {
			s := k.put(some(r, k, 2))
			for i := range s {
				if check(t, k, s[:i]) {
					t.Fatalf("%s: a beginning of %d of %d bytes is taken up", k.name, i, len(s))
				}
			}
			for _, more := range []string{"\x00", "\x01", "\x80", s} {
				if check(t, k, s+more) {
					t.Fatalf("%s: taken up with %q behind it", k.name, more)
				}
			}
		}
	}
}

// TestW2Broken: each byte of what is laid is changed, taken out, or doubled.
func TestW2Broken(t *testing.T) {
	r := rand.New(rand.NewSource(3))
	for _, k := range kinds() {
		for range 2 {
			s := k.put(some(r, k, 2))
			for i := range s {
				for _, b := range []byte{0, 1, 2, 127, 128, 129, 255, s[i] + 1, s[i] - 1, s[i] ^ 128, byte(r.Intn(256))} {
					check(t, k, s[:i]+string([]byte{b})+s[i+1:])
				}
				check(t, k, s[:i]+s[i+1:])
				check(t, k, s[:i+1]+s[i:])
				check(t, k, s[:i]+string([]byte{s[i] | 128, 0})+s[i+1:])
			}
		}
	}
}

func TestW2ByChance(t *testing.T) {
	r := rand.New(rand.NewSource(4))
	for _, k := range kinds() {
		taken := 0
		for range 20000 {
			l := make([]byte, r.Intn(40))
			for i := range l {
				if r.Intn(4) == 0 {
					l[i] = byte(r.Intn(256))
				} else {
					l[i] = byte(r.Intn(3))
				}
			}
			if check(t, k, string(l)) {
				taken++
			}
		}
		if taken == 0 && k.name != "message" {
			t.Errorf("%s: nothing was taken up: these texts try nothing", k.name)
		}
	}
}

// limit is how much of a text or a list may stand in a field.
func limit(s spot) int {
	switch {
	case s.v.Kind() == reflect.Slice:
		return api.MaxList
	case s.name == "message.Data":
		return api.MaxSnap
	}
	return api.MaxText
}

// TestW3Limits: each text and each list of each thing, at its limit, one behind it, and far beyond.
func TestW3Limits(t *testing.T) {
	for _, k := range kinds() {
		v := full(k.of, 1, 1)
		for _, s := range spots(k, v) {
			if s.v.Kind() != reflect.String && s.v.Kind() != reflect.Slice || s.left {
				continue
			}
			old := held(s.v)
			for _, n := range []int{0, 1, limit(s) - 1, limit(s), limit(s) + 1, 2 * limit(s), 128 * limit(s)} {
				if s.v.Kind() == reflect.String {
					s.v.SetString(strings.Repeat("x", n))
				} else {
					s.v.Set(reflect.MakeSlice(s.v.Type(), n, n))
				}
				text := k.put(v)
				if text != laidAs(k.name, v) {
					t.Errorf("%s of %d: not laid as the table says", s.name, n)
				}
				if got, want := check(t, k, text), n <= limit(s); got != want {
					t.Errorf("%s of %d: taken up: %t, want %t", s.name, n, got, want)
				}
			}
			s.v.Set(old)
		}
	}
}

func TestW3BackByChance(t *testing.T) {
	r := rand.New(rand.NewSource(5))
	for _, k := range kinds() {
		for range 300 {
			v := some(r, k, 3)
			s := k.put(v)
			if got, e := k.get(s); e != api.OK || !same(got, v) {
				t.Fatalf("%s %+v: %+v, %d", k.name, v, got, e)
			}
			check(t, k, s)
		}
	}
}

// TestW3Numbers: each number of each thing, an Err too, may be any.
func TestW3Numbers(t *testing.T) {
	for _, k := range kinds() {
		v := full(k.of, 2, 1)
		for _, s := range spots(k, v) {
			if s.v.Kind() != reflect.Int {
				continue
			}
			for _, n := range []int64{-1, 1, 63, 64, -65, 1 << 32, 1<<62 + 1, math.MaxInt64, math.MinInt64} {
				s.v.SetInt(n)
				if got, e := k.get(k.put(v)); e != api.OK || !same(got, v) {
					t.Errorf("%s %d: not what was laid: %d", s.name, n, e)
				}
			}
			s.v.SetInt(0)
		}
	}
}

// TestW3AllFull: lists within lists, all of them at their limits.
func TestW3AllFull(t *testing.T) {
	reply := api.Reply{Subs: make([]api.Reply, api.MaxList)}
	for i := range reply.Subs {
		reply.Subs[i] = api.Reply{Acl: make([]api.Acl, api.MaxList), Kids: make([]string, api.MaxList)}
	}
	s := wire.PutReply(reply)
	if got, e := wire.GetReply(s); e != api.OK || !same(reflect.ValueOf(got), reflect.ValueOf(reply)) {
		t.Errorf("a full reply: %d", e)
	}
	if got, e := wire.GetReply(s[:len(s)-1]); e != api.ErrWireForm || !same(reflect.ValueOf(got), reflect.ValueOf(api.Reply{})) {
		t.Errorf("a full reply, one byte short: %d", e)
	}
	reply.Subs[api.MaxList-1].Kids = append(reply.Subs[api.MaxList-1].Kids, "")
	if got, e := wire.GetReply(wire.PutReply(reply)); e != api.ErrWireForm || !same(reflect.ValueOf(got), reflect.ValueOf(api.Reply{})) {
		t.Errorf("a full reply, one name too many: %d", e)
	}
}

// TestW3DataOfAMessage: the long limit is of the message's own Data alone.
func TestW3DataOfAMessage(t *testing.T) {
	long := strings.Repeat("s", api.MaxText+1)
	for name, m := range map[string]api.Message{
		"an entry":         {Entries: []api.Entry{{Txn: api.Txn{Data: long}}}},
		"a part":           {Entries: []api.Entry{{Txn: api.Txn{Subs: []api.Txn{{Data: long}}}}}},
		"the request":      {Request: api.Request{Data: long}},
		"an op":            {Request: api.Request{Subs: []api.Request{{Data: long}}}},
		"an ID":            {IDs: []string{long}},
		"the request path": {Request: api.Request{Path: long}},
	} {
		if _, e := wire.GetMessage(wire.PutMessage(m)); e != api.ErrWireForm {
			t.Errorf("%s of %d bytes: %d", name, len(long), e)
		}
	}
	if m, e := wire.GetMessage(wire.PutMessage(api.Message{Data: long})); e != api.OK || m.Data != long {
		t.Errorf("Data of %d bytes: %d", len(long), e)
	}
}

// cut shortens all of a thing's lists to half, so that the other half stands behind their length; uncut takes that back.
func cut(v reflect.Value) {
	each(v, cut)
	if v.Kind() == reflect.Slice {
		v.Set(v.Slice(0, v.Len()/2))
	}
}

func uncut(v reflect.Value) {
	if v.Kind() == reflect.Slice {
		v.Set(v.Slice(0, v.Cap()))
	}
	each(v, uncut)
}

// each does something with each field, or each element.
func each(v reflect.Value, do func(reflect.Value)) {
	switch v.Kind() {
	case reflect.Struct:
		for i := range v.NumField() {
			do(v.Field(i))
		}
	case reflect.Slice:
		for i := range v.Len() {
			do(v.Index(i))
		}
	}
}

// TestHandedInStays: Put writes neither into its thing nor behind its lists' lengths.
func TestHandedInStays(t *testing.T) {
	r := rand.New(rand.NewSource(6))
	for _, k := range kinds() {
		for range 10 {
			v := full(k.of, 4, 2)
			for _, s := range spots(k, v) {
				if s.v.Kind() != reflect.Slice {
					fill(r, s.v, 0, false)
				}
			}
			want := copied(v)
			cut(v)
			if text := k.put(v); text != laidAs(k.name, v) || text != k.put(v) {
				t.Fatalf("%s: laid twice, two texts", k.name)
			}
			uncut(v)
			if !same(v, want) {
				t.Fatalf("%s: what was handed in is changed", k.name)
			}
		}
	}
}

// overwrite changes all of a thing, and what stands in its lists' spare room.
func overwrite(v reflect.Value) {
	switch v.Kind() {
	case reflect.Int:
		v.SetInt(v.Int() + 1)
	case reflect.Bool:
		v.SetBool(!v.Bool())
	case reflect.String:
		v.SetString(v.String() + "!")
	case reflect.Struct:
		each(v, overwrite)
	case reflect.Slice:
		each(v.Slice(0, v.Cap()), overwrite)
	}
}

// TestAnswersAlone: two answers of one text share nothing, nor do two lists of one answer.
func TestAnswersAlone(t *testing.T) {
	for _, k := range kinds() {
		s := k.put(full(k.of, 3, 1))
		first, _ := k.get(s)
		second, _ := k.get(s)
		want := copied(second)
		overwrite(first)
		if third, e := k.get(s); !same(second, want) || !same(third, want) || e != api.OK {
			t.Errorf("%s: an answer hangs on another one's memory", k.name)
		}
		for _, one := range spots(k, second) {
			if one.v.Kind() != reflect.Slice || one.v.Cap() == 0 {
				continue
			}
			list := held(one.v)
			one.v.SetZero()
			rest := copied(second)
			had := reflect.AppendSlice(reflect.Zero(list.Type()), list)
			each(list.Slice(0, list.Cap()), func(x reflect.Value) {
				x.SetZero() // what stands in it is left alone
				overwrite(x)
			})
			if !same(second, rest) {
				t.Errorf("%s: the room of %s is another list's", k.name, one.name)
			}
			reflect.Copy(list, had)
			one.v.Set(list)
		}
	}
}
