package ask_test

import (
	"bytes"
	"math"
	"reflect"
	"runtime"
	"strings"
	"testing"

	"bursar/api"
	"bursar/ask"
	"bursar/object"
)

// P23.1, P23.2: the chapter's examples of requests, there and back.
func TestRequestExamples(t *testing.T) {
	for _, c := range []struct {
		r    api.Request
		want string
	}{
		{api.Request{Op: api.OpSync, Subject: "ann"}, "52 01 11 03 61 6e 6e"},
		{api.Request{Op: api.OpGet, Subject: "root", Path: "/a", Name: "x"}, "52 01 0a 04 72 6f 6f 74 02 2f 61 01 78"},
		{api.Request{Op: api.OpNodeAdd, Subject: "a", Path: "/", Dry: true}, "52 01 01 01 61 01 2f 01"},
		{api.Request{Op: api.OpNodeAdd, Subject: "a", Path: "/", Dry: true, From: "z"}, "52 01 01 01 61 01 2f 01"},
		{api.Request{Op: api.OpWatch, Subject: "a", Path: "/", Version: -1, Most: 9}, "52 01 0d 01 61 01 2f 01 12"},
		{api.Request{Op: api.OpList, Subject: "a", Path: "/", Deep: true, Terms: []api.Term{{Key: "k", How: api.Is, Values: []string{"v"}}}, Most: 1}, "52 01 0b 01 61 01 2f 01 01 01 6b 00 01 01 76 00 02"},
	} {
		want := unhex(t, c.want)
		if b, errno := checkRequest(t, c.r); errno != api.OK || !bytes.Equal(b, want) {
			t.Errorf("EncodeRequest(%+v) = %x, %d, want %x", c.r, b, errno, want)
		}
		plain := c.r
		plain.From = ""
		if r, errno := ask.DecodeRequest(want); errno != api.OK || !same(r, plain) {
			t.Errorf("DecodeRequest(%x) = %+v, %d", want, r, errno)
		}
	}
}

// P23.1: what is no request, each refusal at its edges.
func TestNoRequests(t *testing.T) {
	for _, op := range []int{0, 20, -1, 21, 255, 256, 257, 273, -255, 1 << 32, 1<<32 + 1, math.MinInt, math.MaxInt} {
		for _, r := range []api.Request{{Op: op}, fullRequest(op), {Op: op, Terms: make([]api.Term, 4097)}} {
			if b, errno := checkRequest(t, r); b != nil || errno != api.ErrOp {
				t.Errorf("EncodeRequest of operation %d = %x, %d", op, b, errno)
			}
		}
	}
	long := bytes.Repeat([]byte{82}, 16385)
	for _, c := range []struct {
		b    []byte
		want api.Errno
	}{
		{nil, api.ErrBad},
		{unhex(t, "52"), api.ErrBad},
		{unhex(t, "52 01"), api.ErrBad},
		{unhex(t, "52 01 14"), api.ErrOp},
		{unhex(t, "52 01 14 00 00"), api.ErrOp},
		{unhex(t, "52 01 00"), api.ErrOp},
		{unhex(t, "52 01 ff ff"), api.ErrOp},
		{unhex(t, "52 01 11"), api.ErrBad},
		{unhex(t, "52 02 11 00"), api.ErrBad},
		{unhex(t, "52 00 11 00"), api.ErrBad},
		{unhex(t, "52 02 14"), api.ErrBad},
		{unhex(t, "72 01 11 00"), api.ErrBad},
		{unhex(t, "41 01 14 00"), api.ErrBad},
		{unhex(t, "52 01 11 03 61 6e 6e 00"), api.ErrBad},
		{unhex(t, "52 01 01 01 61 01 2f 02"), api.ErrBad},
		{unhex(t, "52 01 11 80 00"), api.ErrBad},
		{unhex(t, "52 01 0d 00 00 00 ff ff ff ff ff ff ff ff ff 02"), api.ErrBad},
		{unhex(t, "52 01 0d 00 00 00 ff ff ff ff ff ff ff ff ff 01"), api.OK},
		{unhex(t, "52 01 0b 00 00 00 81 20"), api.ErrBad},
		{long[:16384], api.ErrBad},
		{long, api.ErrLong},
		{append(unhex(t, "52 01 14"), long[:16381]...), api.ErrOp},
		{append(unhex(t, "52 01 14"), long[:16382]...), api.ErrLong},
		{make([]byte, 1<<21), api.ErrLong},
	} {
		if errno, _ := checkBytes(t, c.b); errno != c.want {
			t.Errorf("DecodeRequest(%.40x) = %d, want %d", c.b, errno, c.want)
		}
	}
}

// P23.1, P23.2: the chapter's examples of replies, there and back.
func TestReplyExamples(t *testing.T) {
	for _, c := range []struct {
		op   int
		r    api.Reply
		want string
	}{
		{api.OpSync, api.Reply{Version: 5}, "41 01 11 00 0a"},
		{api.OpCreate, api.Reply{Code: api.ErrQuota, Version: 2, Detail: api.Detail{Path: "/a", Name: "q", Resource: "count"}}, "41 01 07 e8 02 04 02 2f 61 01 71 00 05 63 6f 75 6e 74"},
		{api.OpGet, api.Reply{Names: []string{"/a"}, More: true}, "41 01 0a 00 00 00 01 02 2f 61 01"},
		{api.OpStatus, api.Reply{Version: 1, Lines: []api.Line{{Resource: "count", Hard: 3, Used: 2}}}, "41 01 0c 00 02 01 05 63 6f 75 6e 74 06 04"},
		{0, api.Reply{Code: api.ErrBad}, "41 01 00 04 00 00 00 00 00"},
	} {
		want := unhex(t, c.want)
		if b, errno := checkReply(t, c.op, c.r); errno != api.OK || !bytes.Equal(b, want) {
			t.Errorf("EncodeReply(%d, %+v) = %x, %d, want %x", c.op, c.r, b, errno, want)
		}
		if op, r, errno := ask.DecodeReply(want); errno != api.OK || op != c.op || !same(r, c.r) {
			t.Errorf("DecodeReply(%x) = %d, %+v, %d", want, op, r, errno)
		}
	}
}

// P23.1: what is no reply, each refusal at its edges.
func TestNoReplies(t *testing.T) {
	for _, op := range []int{20, -1, 21, 255, 256, 257, -256, 1 << 32, math.MinInt, math.MaxInt} {
		for _, r := range []api.Reply{{}, fullReply(api.OK), fullReply(api.ErrBad), {Names: make([]string, 4097)}} {
			if b, errno := checkReply(t, op, r); b != nil || errno != api.ErrOp {
				t.Errorf("EncodeReply(%d) = %x, %d", op, b, errno)
			}
		}
	}
	long := bytes.Repeat([]byte{65}, 1<<20+1)
	for _, c := range []struct {
		b    []byte
		want api.Errno
	}{
		{nil, api.ErrBad},
		{unhex(t, "41"), api.ErrBad},
		{unhex(t, "41 01"), api.ErrBad},
		{unhex(t, "41 01 11"), api.ErrBad},
		{unhex(t, "41 01 11 00"), api.ErrBad},
		{unhex(t, "41 01 11 00 0a"), api.OK},
		{unhex(t, "41 01 00 00 0a"), api.OK},
		{unhex(t, "41 01 13 02 0a 00 00 00 00"), api.OK},
		{unhex(t, "41 01 14 00 0a"), api.ErrBad},
		{unhex(t, "41 01 ff 00 0a"), api.ErrBad},
		{unhex(t, "41 02 11 00 0a"), api.ErrBad},
		{unhex(t, "41 00 11 00 0a"), api.ErrBad},
		{unhex(t, "61 01 11 00 0a"), api.ErrBad},
		{unhex(t, "41 01 11 00 0a 00"), api.ErrBad},
		{unhex(t, "41 01 11 80 00 0a"), api.ErrBad},
		{unhex(t, "41 01 0b 00 00 00 02"), api.ErrBad},
		{unhex(t, "41 01 11 01 0a 00 00 00 00"), api.OK},
		{unhex(t, "41 01 11 01 0a"), api.ErrBad},
		{unhex(t, "41 01 11 00 0a 00 00 00 00"), api.ErrBad},
		{long[:1<<20], api.ErrBad},
		{long, api.ErrLong},
		{append(unhex(t, "41 01 14"), long...), api.ErrLong},
	} {
		if _, errno := checkBytes(t, c.b); errno != c.want {
			t.Errorf("DecodeReply(%.40x) = %d, want %d", c.b, errno, c.want)
		}
	}
}

// P23.1, P23.2: every field of every operation, each with a value of its own, stands where the chapter's tables say.
func TestEveryField(t *testing.T) {
	for op := 1; op <= lastOp; op++ {
		if _, errno := checkRequest(t, fullRequest(op)); errno != api.OK {
			t.Errorf("EncodeRequest of a full request of %d = %d", op, errno)
		}
	}
	for op := range lastOp + 1 {
		for _, code := range []api.Errno{api.OK, 1, -1, api.ErrScript, math.MinInt, math.MaxInt} {
			if _, errno := checkReply(t, op, fullReply(code)); errno != api.OK {
				t.Errorf("EncodeReply of a full reply %d to %d = %d", code, op, errno)
			}
		}
	}
}

// listsOf: a request or reply for each list that it has, nested ones too, with so many elements in that one.
func listsOf[T any](base T, n int) map[string]T {
	found := map[string]T{}
	var places func(of reflect.Type, at string, get func(v reflect.Value) reflect.Value)
	places = func(of reflect.Type, at string, get func(v reflect.Value) reflect.Value) {
		switch of.Kind() {
		case reflect.Struct:
			for i := range of.NumField() {
				places(of.Field(i).Type, at+"."+of.Field(i).Name, func(v reflect.Value) reflect.Value { return get(v).Field(i) })
			}
		case reflect.Slice:
			one := copied(base)
			list := get(reflect.ValueOf(&one).Elem())
			list.Set(reflect.MakeSlice(of, n, n))
			found[at] = one
			places(of.Elem(), at+"[]", func(v reflect.Value) reflect.Value {
				list := get(v)
				if list.Len() == 0 {
					list.Set(reflect.MakeSlice(of, 1, 1))
				}
				return list.Index(list.Len() - 1)
			})
		}
	}
	places(reflect.TypeFor[T](), "", func(v reflect.Value) reflect.Value { return v })
	return found
}

// P23.1: a list of 4096 elements is the longest, in every place where one is written, and where one is read; where none is written, none is looked at (P23.4).
func TestLongLists(t *testing.T) {
	for _, n := range []int{4096, 4097} {
		refused := 0
		for op := 1; op <= lastOp; op++ {
			for _, r := range listsOf(api.Request{Op: op}, n) {
				if _, errno := checkRequest(t, r); errno == api.ErrLong {
					refused++
					b, _ := layRequest(r)
					checkBytes(t, b)
				}
			}
		}
		for op := range lastOp + 1 {
			for _, code := range []api.Errno{api.OK, api.ErrBad} {
				for _, r := range listsOf(api.Reply{Code: code}, n) {
					if _, errno := checkReply(t, op, r); errno == api.ErrLong {
						refused++
						b, _ := layReply(op, r)
						checkBytes(t, b)
					}
				}
			}
		}
		// Rules of 6 bytes each are too many bytes for a request, however few they are. Beyond 4096: 4 lists of an object in 3 operations, 1 of a quota, 1 of a limit range, 2 of terms; then in replies 4 and the objects themselves in 6, the names, the lines, the events.
		want := map[bool]int{false: 1, true: 4*3 + 1 + 1 + 2 + 5*6 + 1 + 1 + 1}[n > 4096]
		if refused != want {
			t.Errorf("with %d elements %d were refused, want %d", n, refused, want)
		}
	}
}

// P23.1: a request of 16384 bytes is the longest, a reply of 1048576; so when read.
func TestLongBytes(t *testing.T) {
	for op := 1; op <= lastOp; op++ {
		bare := len(encodedRequest(t, api.Request{Op: op}))
		for size := 16384 - 3; size <= 16384+3; size++ {
			r := api.Request{Op: op, Subject: strings.Repeat("s", size-bare-1)} // its length takes 2 bytes for 1
			b, errno := checkRequest(t, r)
			if size <= 16384 && (errno != api.OK || len(b) != size) || size > 16384 && errno != api.ErrLong {
				t.Errorf("a request of %d bytes: %d bytes, %d", size, len(b), errno)
			}
			want, _ := lay([]byte{82, 1, byte(op)}, reflect.ValueOf(r.Subject))
			checkBytes(t, append(want, make([]byte, bare-4)...))
		}
	}
	for op := range lastOp + 1 {
		bare := len(encodedReply(t, op, api.Reply{Code: 1}))
		for size := 1<<20 - 2; size <= 1<<20+2; size++ {
			r := api.Reply{Code: 1, Detail: api.Detail{Resource: strings.Repeat("r", size-bare-2)}}
			b, errno := checkReply(t, op, r)
			if size <= 1<<20 && (errno != api.OK || len(b) != size) || size > 1<<20 && errno != api.ErrLong {
				t.Errorf("a reply of %d bytes: %d bytes, %d", size, len(b), errno)
			}
			checkBytes(t, append(append([]byte{65, 1, byte(op), 2, 0, 0, 0, 0}, lengthOf(size-bare-2)...), r.Detail.Resource...))
		}
	}
}

func lengthOf(n int) []byte {
	b, _ := lay(nil, reflect.ValueOf(strings.Repeat("x", n)))
	return b[:len(b)-n]
}

// P23.1: lists of lists that would be far too long end soon too.
func TestVeryLongEnds(t *testing.T) {
	amounts := make([]api.Amount, 4096)
	parts := make([]api.Part, 4096)
	for i := range parts {
		parts[i] = api.Part{Requests: amounts, Limits: amounts}
	}
	objects := make([]api.Object, 4096)
	for i := range objects {
		objects[i].Parts = parts
	}
	if b, errno := ask.EncodeReply(api.OpList, api.Reply{Objects: objects}); b != nil || errno != api.ErrLong {
		t.Errorf("EncodeReply of 4096 objects of 4096 parts of 4096 amounts = %d", errno)
	}
	if b, errno := ask.EncodeRequest(api.Request{Op: api.OpCreate, Object: objects[0]}); b != nil || errno != api.ErrLong {
		t.Errorf("EncodeRequest of 4096 parts of 4096 amounts = %d", errno)
	}
}

// P23.1: bytes that say that there is much, and have little, cost little.
func TestEmptyPromisesAreCheap(t *testing.T) {
	for _, s := range []string{
		"52 01 0b 00 00 00 80 20",
		"52 01 07 00 00 00 80 20",
		"52 01 07 00 00 00 00 00 00 80 20 00 80 20",
		"41 01 0b 00 00 80 20",
		"41 01 0a 00 00 00 80 20",
		"41 01 0d 00 00 80 20 00",
	} {
		b := unhex(t, s)
		checkBytes(t, b)
		if most := allocated(func() { ask.DecodeRequest(b); ask.DecodeReply(b) }); most > 20000 {
			t.Errorf("%x takes %d bytes of memory", b, most)
		}
	}
}

func allocated(do func()) uint64 {
	var ahead, behind runtime.MemStats
	runtime.ReadMemStats(&ahead)
	do()
	runtime.ReadMemStats(&behind)
	return behind.TotalAlloc - ahead.TotalAlloc
}

// P23.3: the bytes of a request or reply, cut anywhere, or with anything behind them, are none's.
func TestNothingIsSwallowed(t *testing.T) {
	r := source(1)
	for _, b := range samples(t) {
		for n := range b {
			asRequest, asReply := checkBytes(t, b[:n])
			if asRequest == api.OK || asReply == api.OK {
				t.Fatalf("%x is taken, though it goes on: %x", b[:n], b)
			}
		}
		for c := range 256 {
			tail := make([]byte, r.IntN(3))
			for i := range tail {
				tail[i] = byte(r.Uint32())
			}
			more := append(append(bytes.Clone(b), byte(c)), tail...)
			asRequest, asReply := checkBytes(t, more)
			if asRequest == api.OK || asReply == api.OK {
				t.Fatalf("%x is taken, though it ended with %x", more, b)
			}
		}
	}
}

// P23.1, P23.2: with any byte changed into others, it is judged as the chapter's words do.
func TestChangedBytes(t *testing.T) {
	taken, refused := 0, 0
	for _, b := range samples(t) {
		for i := range b {
			for _, c := range []byte{0, 1, 2, 3, 4, 7, 20, 65, 82, 127, 128, 129, 255, b[i] + 1, b[i] - 1, b[i] ^ 128} {
				changed := bytes.Clone(b)
				changed[i] = c
				asRequest, asReply := checkBytes(t, changed)
				if asRequest == api.OK || asReply == api.OK {
					taken++
				} else {
					refused++
				}
			}
		}
	}
	if taken < 5000 || refused < 5000 {
		t.Errorf("%d taken, %d refused", taken, refused)
	}
}

// P23.2: no bytes are both; every operation has its own.
func TestHeads(t *testing.T) {
	for first := range 256 {
		for second := range 256 {
			for _, third := range []byte{17, 20} {
				asRequest, asReply := checkBytes(t, []byte{byte(first), byte(second), third, 0, 0, 0})
				if asRequest != api.ErrBad && (first != 82 || second != 1) || asReply != api.ErrBad && (first != 65 || second != 1) {
					t.Fatalf("%x %x is the head of something", first, second)
				}
			}
		}
	}
	for third := range 256 {
		for _, first := range []byte{82, 65} {
			for n := range 12 {
				checkBytes(t, append([]byte{first, 1, byte(third)}, make([]byte, n)...))
			}
		}
	}
}

// P23.3: unlike plain requests have unlike bytes, so have unlike replies.
func TestUnlikeBytes(t *testing.T) {
	for op := 1; op <= lastOp; op++ {
		base := plainRequest(fullRequest(op))
		unlike(t, base, func(r api.Request) ([]byte, bool) {
			return encodedRequest(t, r), same(r, plainRequest(r)) && r.Op == op
		})
	}
	for op := range lastOp + 1 {
		for _, code := range []api.Errno{api.OK, api.ErrBad} {
			base := plainReply(op, fullReply(code))
			unlike(t, base, func(r api.Reply) ([]byte, bool) { return encodedReply(t, op, r), same(r, plainReply(op, r)) })
		}
	}
}

// unlike changes each single field, however deep, and asks that the bytes, where it is plain still, are those of no other.
func unlike[T any](t *testing.T, base T, encode func(T) ([]byte, bool)) {
	t.Helper()
	b, _ := encode(base)
	seen := map[string]int{string(b): -1}
	for n := 0; ; n++ {
		one := copied(base)
		left := n
		if !alter(reflect.ValueOf(&one).Elem(), &left) {
			return
		}
		if b, plain := encode(one); plain {
			if other, is := seen[string(b)]; is {
				t.Fatalf("%s has the bytes of another (%d)", short(one), other)
			}
			seen[string(b)] = n
		}
	}
}

// alter changes the place that comes when so many have gone by; a list loses its last element, or gets one. The operation stays.
func alter(v reflect.Value, left *int) bool {
	switch v.Kind() {
	case reflect.Struct:
		for i := range v.NumField() {
			if v.Type().Field(i).Name != "Op" && alter(v.Field(i), left) {
				return true
			}
		}
		return false
	case reflect.Slice:
		for i := range v.Len() {
			if alter(v.Index(i), left) {
				return true
			}
		}
	}
	if *left--; *left >= 0 {
		return false
	}
	switch v.Kind() {
	case reflect.Slice:
		if v.Len() == 0 {
			v.Set(reflect.MakeSlice(v.Type(), 1, 1))
		} else {
			v.SetLen(v.Len() - 1)
		}
	case reflect.String:
		v.SetString(v.String() + "'")
	case reflect.Bool:
		v.SetBool(!v.Bool())
	default:
		v.SetInt(v.Int() + 1000)
	}
	return true
}

// P23.4: fields that an operation doesn't name change no byte and no Verb.
func TestPlainIsEnough(t *testing.T) {
	r := source(2)
	for range 300 {
		for op := 1; op <= lastOp; op++ {
			base := anyRequest(r)
			base.Op = op
			other := anyRequest(r)
			other.Op, other.Subject = op, base.Subject
			only(&other, base, strings.Fields(asked[op]))
			if !bytes.Equal(encodedRequest(t, other), encodedRequest(t, plainRequest(base))) {
				t.Fatalf("%s and %s have unlike bytes", short(other), short(base))
			}
			verb, place, is := ask.Verb(other)
			if v, p, ok := ask.Verb(plainRequest(base)); v != verb || p != place || ok != is {
				t.Fatalf("Verb(%s) = %d, %q, %v; of the plain one %d, %q, %v", short(other), verb, place, is, v, p, ok)
			}
			if !is {
				t.Fatalf("Verb(%s) = false", short(other))
			}
		}
	}
}

// greatest: a valid object (layer 13) whose bytes here are as many as may be: numbers above 2^62 take a byte more than there.
func greatest(t *testing.T) api.Object {
	t.Helper()
	o := api.Object{Path: "/" + strings.Repeat("p", 31) + "/" + strings.Repeat("q", 31), Name: strings.Repeat("n", 32), Priority: 9, Deadline: api.MaxStamp, Version: api.MaxStamp}
	for i := range 16 {
		o.Labels = append(o.Labels, api.Label{Key: string(rune('a' + i)), Value: strings.Repeat("v", 32)})
	}
	for i := range 8 {
		o.Parts = append(o.Parts, api.Part{Name: string(rune('a' + i)), Requests: greatAmounts(), Limits: greatAmounts()})
	}
	for size := 0; ; size++ { // fill up what is left, a byte at a time
		p := &o.Parts[size%8]
		was := p.Name
		p.Name += "x"
		if object.ValidObject(o) != api.OK {
			p.Name = was
			return o
		}
	}
}

func greatAmounts() []api.Amount {
	var l []api.Amount
	for i := range 16 {
		l = append(l, api.Amount{Name: string(rune('a'+i)) + strings.Repeat("m", 17), Value: api.MaxAmount})
	}
	return l
}

// P23.5: the greatest replies that a server gives have room.
func TestServersReplies(t *testing.T) {
	o := greatest(t)
	if s, errno := object.EncodeObject(o); errno != api.OK || len(s) < 7800 {
		t.Fatalf("%d bytes, %d: not the greatest", len(s), errno)
	}
	objects := func(n int) []api.Object {
		var l []api.Object
		for range n {
			l = append(l, o)
		}
		return l
	}
	var names []string
	for range api.MaxList {
		names = append(names, "/"+strings.Repeat("p", 31)+"/"+strings.Repeat("q", 31))
	}
	var events []api.Event
	for range api.MaxEvents {
		events = append(events, api.Event{Version: api.MaxStamp, Kind: 4, Gone: true, Path: names[0], Name: strings.Repeat("n", 32)})
	}
	var lines []api.Line
	for range api.MaxAmounts {
		lines = append(lines, api.Line{Resource: strings.Repeat("r", 57), Hard: math.MaxInt64, Used: math.MaxInt64})
	}
	detail := api.Detail{Path: strings.Repeat("p", api.MaxRequest), Name: names[0], Part: names[0], Resource: names[0]}
	for _, c := range []struct {
		op int
		r  api.Reply
	}{
		{api.OpList, api.Reply{Objects: objects(api.MaxPage), More: true}},
		{api.OpEvict, api.Reply{Objects: objects(api.MaxPlan + 1)}},
		{api.OpCreate, api.Reply{Objects: objects(1)}},
		{api.OpGet, api.Reply{Names: names, More: true}},
		{api.OpWatch, api.Reply{Events: events}},
		{api.OpStatus, api.Reply{Lines: lines}},
		{api.OpStat, fullReply(api.OK)},
		{api.OpNodeDrop, api.Reply{Code: api.ErrDenied, Detail: detail}},
	} {
		c.r.Version = api.MaxStamp
		if b, errno := checkReply(t, c.op, c.r); errno != api.OK || len(b) > api.MaxWriter {
			t.Errorf("the greatest reply to %d: %d bytes, %d", c.op, len(b), errno)
		}
	}
}

// P23.1: the chapter's examples of Verb, and paths at their edges.
func TestVerb(t *testing.T) {
	for _, c := range []struct {
		r     api.Request
		verb  int
		place string
		is    bool
	}{
		{api.Request{Op: api.OpNodeAdd, Path: "/a/b"}, api.Govern, "/a", true},
		{api.Request{Op: api.OpNodeAdd, Path: "/a"}, api.Govern, "/", true},
		{api.Request{Op: api.OpNodeAdd, Path: "/"}, api.Govern, "/", true},
		{api.Request{Op: api.OpNodeAdd, Path: "x"}, api.Govern, "x", true},
		{api.Request{Op: api.OpNodeAdd}, api.Govern, "", true},
		{api.Request{Op: api.OpNodeAdd, Path: "/a/b/"}, api.Govern, "/a/b/", true},
		{api.Request{Op: api.OpNodeAdd, Path: "/a/B"}, api.Govern, "/a/B", true},
		{api.Request{Op: api.OpNodeAdd, Path: strings.Repeat("/a", 8)}, api.Govern, strings.Repeat("/a", 7), true},
		{api.Request{Op: api.OpNodeAdd, Path: strings.Repeat("/a", 9)}, api.Govern, strings.Repeat("/a", 9), true},
		{api.Request{Op: api.OpNodeDrop, Path: "/a/b"}, api.Govern, "/a/b", true},
		{api.Request{Op: api.OpCreate, Path: "/z", Object: api.Object{Path: "/a"}}, api.Write, "/a", true},
		{api.Request{Op: api.OpStat, Path: "/z"}, api.Govern, "/", true},
		{api.Request{Op: 20}, 0, "", false},
	} {
		verb, place, is := ask.Verb(c.r)
		if verb != c.verb || place != c.place || is != c.is {
			t.Errorf("Verb(%+v) = %d, %q, %v, want %d, %q, %v", c.r, verb, place, is, c.verb, c.place, c.is)
		}
	}
	for op := 1; op <= lastOp; op++ {
		checkRequest(t, fullRequest(op))
		checkRequest(t, api.Request{Op: op})
	}
}

// P23.1: Changes of every operation, and of what is none.
func TestChanges(t *testing.T) {
	for op := range asked {
		if want := strings.HasSuffix(asked[op], "Dry"); ask.Changes(op) != want {
			t.Errorf("Changes(%d) = %v", op, !want)
		}
	}
	for _, op := range []int{-1, 0, 20, 21, 255, 256, 257, 1<<32 + 1, math.MinInt, math.MaxInt} {
		if ask.Changes(op) {
			t.Errorf("Changes(%d) = true", op)
		}
	}
}
