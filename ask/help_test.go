package ask_test

import (
	"bytes"
	"encoding/binary"
	"encoding/hex"
	"fmt"
	"math"
	"math/rand/v2"
	"path"
	"reflect"
	"regexp"
	"slices"
	"strings"
	"testing"

	"bursar/api"
	"bursar/ask"
)

// What follows is the chapter's words over again, by other means: its tables as texts, and the types' fields gone through by their names.

// asked: the fields of each operation's requests, told: those of its replies.
var (
	asked = []string{
		api.OpNodeAdd:    "Path Dry",
		api.OpNodeDrop:   "Path Dry",
		api.OpQuotaSet:   "Quota Dry",
		api.OpQuotaDrop:  "Path Name Dry",
		api.OpLimitSet:   "Limit Dry",
		api.OpLimitDrop:  "Path Name Dry",
		api.OpCreate:     "Object Dry",
		api.OpUpdate:     "Object Version Dry",
		api.OpDelete:     "Path Name Version Dry",
		api.OpGet:        "Path Name",
		api.OpList:       "Path Deep Terms From Most",
		api.OpStatus:     "Path Name",
		api.OpWatch:      "Path Version Most",
		api.OpBind:       "Binding Dry",
		api.OpUnbind:     "Path Name Dry",
		api.OpEvict:      "Object Dry",
		api.OpSync:       "",
		api.OpCheckpoint: "",
		api.OpStat:       "",
	}
	told = []string{
		api.OpCreate: "Objects",
		api.OpUpdate: "Objects",
		api.OpDelete: "Objects",
		api.OpEvict:  "Objects",
		api.OpGet:    "Objects Names More",
		api.OpList:   "Objects More",
		api.OpStatus: "Lines",
		api.OpWatch:  "Events",
		api.OpStat:   "Stat",
	}
	forms = map[string]string{
		"Object":     "Path Name Labels Priority Deadline Parts Version",
		"Label":      "Key Value",
		"Part":       "Name Requests Limits",
		"Amount":     "Name Value",
		"Quota":      "Path Name Scope Hard",
		"Scope":      "Kind Arg",
		"LimitRange": "Path Name Rules",
		"Rule":       "Resource Min Max Default Request Ratio",
		"Binding":    "Path Name Subject Verb",
		"Term":       "Key How Values",
		"Line":       "Resource Hard Used",
		"Event":      "Version Kind Gone Path Name",
		"Stat":       "Generation Epoch Version LogFree Entries Unsynced",
		"Detail":     "Path Name Part Resource",
	}
	verbs = []string{
		api.OpNodeAdd:    "govern above",
		api.OpNodeDrop:   "govern Path",
		api.OpQuotaSet:   "govern Quota",
		api.OpQuotaDrop:  "govern Path",
		api.OpLimitSet:   "govern Limit",
		api.OpLimitDrop:  "govern Path",
		api.OpCreate:     "write Object",
		api.OpUpdate:     "write Object",
		api.OpDelete:     "write Path",
		api.OpGet:        "read Path",
		api.OpList:       "read Path",
		api.OpStatus:     "read Path",
		api.OpWatch:      "read Path",
		api.OpBind:       "bind Binding",
		api.OpUnbind:     "bind Path",
		api.OpEvict:      "govern Object",
		api.OpSync:       "govern /",
		api.OpCheckpoint: "govern /",
		api.OpStat:       "govern /",
	}
)

const lastOp = 19

// toldOf: what a reply with this code has behind its version.
func toldOf(op int, code api.Errno) []string {
	switch {
	case code != 0:
		return []string{"Detail"}
	case op < len(told):
		return strings.Fields(told[op])
	}
	return nil
}

// lay tells the form of any value; false: one of its lists is too long.
func lay(b []byte, v reflect.Value) ([]byte, bool) {
	fits := true
	switch v.Kind() {
	case reflect.String:
		return append(binary.AppendUvarint(b, uint64(v.Len())), v.String()...), true
	case reflect.Bool:
		return append(b, map[bool]byte{true: 1}[v.Bool()]), true
	case reflect.Slice:
		b, fits = binary.AppendUvarint(b, uint64(v.Len())), v.Len() <= 4096
		for i := range v.Len() {
			var one bool
			b, one = lay(b, v.Index(i))
			fits = fits && one
		}
		return b, fits
	case reflect.Struct:
		return layFields(b, v, strings.Fields(forms[v.Type().Name()]))
	}
	return binary.AppendVarint(b, v.Int()), true
}

func layFields(b []byte, v reflect.Value, fields []string) ([]byte, bool) {
	fits := true
	for _, field := range fields {
		var one bool
		b, one = lay(b, v.FieldByName(field))
		fits = fits && one
	}
	return b, fits
}

// ended: what is answered of bytes that were laid.
func ended(b []byte, fits bool, most int) ([]byte, api.Errno) {
	if !fits || len(b) > most {
		return nil, api.ErrLong
	}
	return b, api.OK
}

func requestForm(r api.Request) ([]byte, api.Errno) {
	if r.Op < 1 || r.Op > lastOp {
		return nil, api.ErrOp
	}
	b, fits := layRequest(r)
	return ended(b, fits, 16384)
}

func layRequest(r api.Request) ([]byte, bool) {
	fields := append([]string{"Subject"}, strings.Fields(asked[r.Op])...)
	return layFields([]byte{82, 1, byte(r.Op)}, reflect.ValueOf(r), fields)
}

func replyForm(op int, r api.Reply) ([]byte, api.Errno) {
	if op < 0 || op > lastOp {
		return nil, api.ErrOp
	}
	b, fits := layReply(op, r)
	return ended(b, fits, 1<<20)
}

func layReply(op int, r api.Reply) ([]byte, bool) {
	fields := append([]string{"Code", "Version"}, toldOf(op, r.Code)...)
	return layFields([]byte{65, 1, byte(op)}, reflect.ValueOf(r), fields)
}

// scan reads forms; where none stands it panics, and the one who began catches that.
type scan struct{ left []byte }

func (s *scan) some(n int) []byte {
	piece := s.left[:n]
	s.left = s.left[n:]
	return piece
}

func (s *scan) number() uint64 {
	n, size := binary.Uvarint(s.left)
	if size <= 0 || size > 1 && s.left[size-1] == 0 {
		panic("no number")
	}
	s.some(size)
	return n
}

// length takes a number that may be no more than most.
func (s *scan) length(most int) int {
	n := s.number()
	if n > uint64(most) {
		panic("too great")
	}
	return int(n)
}

func (s *scan) take(v reflect.Value) {
	switch v.Kind() {
	case reflect.String:
		v.SetString(string(s.some(s.length(len(s.left)))))
	case reflect.Bool:
		b := s.some(1)[0]
		if b > 1 {
			panic("no truth")
		}
		v.SetBool(b == 1)
	case reflect.Slice:
		for range s.length(4096) {
			v.Set(reflect.Append(v, reflect.Zero(v.Type().Elem())))
			s.take(v.Index(v.Len() - 1))
		}
	case reflect.Struct:
		s.takeFields(v, strings.Fields(forms[v.Type().Name()]))
	default:
		n := s.number()
		signed := int64(n / 2)
		if n%2 == 1 {
			signed = -signed - 1
		}
		v.SetInt(signed)
	}
}

func (s *scan) takeFields(v reflect.Value, fields []string) {
	for _, field := range fields {
		s.take(v.FieldByName(field))
	}
}

// whole tells whether a scan came to the end of its bytes without a fault.
func (s *scan) whole(read func()) (is bool) {
	defer func() {
		if recover() != nil {
			is = false
		}
	}()
	read()
	return len(s.left) == 0
}

func requestOf(b []byte) (api.Request, api.Errno) {
	if len(b) > 16384 {
		return api.Request{}, api.ErrLong
	}
	if !bytes.HasPrefix(b, []byte{82, 1}) || len(b) == 2 {
		return api.Request{}, api.ErrBad
	}
	if b[2] < 1 || b[2] > lastOp {
		return api.Request{}, api.ErrOp
	}
	r, s := api.Request{Op: int(b[2])}, &scan{b[3:]}
	v := reflect.ValueOf(&r).Elem()
	if !s.whole(func() { s.takeFields(v, append([]string{"Subject"}, strings.Fields(asked[r.Op])...)) }) {
		return api.Request{}, api.ErrBad
	}
	return r, api.OK
}

func replyOf(b []byte) (int, api.Reply, api.Errno) {
	if len(b) > 1<<20 {
		return 0, api.Reply{}, api.ErrLong
	}
	if !bytes.HasPrefix(b, []byte{65, 1}) || len(b) == 2 || b[2] > lastOp {
		return 0, api.Reply{}, api.ErrBad
	}
	var r api.Reply
	op, s, v := int(b[2]), &scan{b[3:]}, reflect.ValueOf(&r).Elem()
	read := func() {
		s.takeFields(v, []string{"Code", "Version"})
		s.takeFields(v, toldOf(op, r.Code))
	}
	if !s.whole(read) {
		return 0, api.Reply{}, api.ErrBad
	}
	return op, r, api.OK
}

var pathText = regexp.MustCompile(`\A(?:/[a-z0-9](?:[a-z0-9-]{0,30}[a-z0-9])?){1,8}\z`)

func verbOf(r api.Request) (int, string, bool) {
	if r.Op < 1 || r.Op > lastOp {
		return 0, "", false
	}
	said := strings.Fields(verbs[r.Op])
	verb := slices.Index([]string{"read", "write", "govern", "bind"}, said[0])
	switch said[1] {
	case "/":
		return verb, "/", true
	case "Path":
		return verb, r.Path, true
	case "above":
		if pathText.MatchString(r.Path) && len(r.Path) <= 64 {
			return verb, path.Dir(r.Path), true
		}
		return verb, r.Path, true
	}
	return verb, reflect.ValueOf(r).FieldByName(said[1]).FieldByName("Path").String(), true
}

// plainRequest: with the fields alone that its operation names.
func plainRequest(r api.Request) api.Request {
	plain := api.Request{Op: r.Op, Subject: r.Subject}
	only(&plain, r, strings.Fields(asked[r.Op]))
	return plain
}

func plainReply(op int, r api.Reply) api.Reply {
	plain := api.Reply{Code: r.Code, Version: r.Version}
	only(&plain, r, toldOf(op, r.Code))
	return plain
}

func only[T any](to *T, from T, fields []string) {
	for _, field := range fields {
		reflect.ValueOf(to).Elem().FieldByName(field).Set(reflect.ValueOf(from).FieldByName(field))
	}
}

// copied: all of it anew, empty lists nil.
func copied[T any](a T) T {
	var b T
	copyInto(reflect.ValueOf(&b).Elem(), reflect.ValueOf(a))
	return b
}

func copyInto(to, from reflect.Value) {
	switch from.Kind() {
	case reflect.Slice:
		if from.Len() > 0 {
			to.Set(reflect.MakeSlice(from.Type(), from.Len(), from.Len()))
		}
		for i := range from.Len() {
			copyInto(to.Index(i), from.Index(i))
		}
	case reflect.Struct:
		for i := range from.NumField() {
			copyInto(to.Field(i), from.Field(i))
		}
	default:
		to.Set(from)
	}
}

// same: a list that is nil and an empty one are the same.
func same[T any](a, b T) bool { return reflect.DeepEqual(copied(a), copied(b)) }

// short tells what may be long.
func short(a any) string {
	if s := fmt.Sprintf("%+v", a); len(s) > 600 {
		return s[:600] + " .."
	} else {
		return s
	}
}

// checkRequest holds all that is told of a request against the chapter's words.
func checkRequest(t *testing.T, r api.Request) ([]byte, api.Errno) {
	t.Helper()
	was := copied(r)
	want, wantErrno := requestForm(r)
	b, errno := ask.EncodeRequest(r)
	if !bytes.Equal(b, want) || errno != wantErrno || errno != api.OK && b != nil {
		t.Fatalf("EncodeRequest(%s) = %.200x, %d, want %.200x, %d", short(r), b, errno, want, wantErrno)
	}
	verb, place, is := ask.Verb(r)
	wantVerb, wantPlace, wantIs := verbOf(r)
	if verb != wantVerb || place != wantPlace || is != wantIs {
		t.Fatalf("Verb(%s) = %d, %q, %v, want %d, %q, %v", short(r), verb, place, is, wantVerb, wantPlace, wantIs)
	}
	if !same(r, was) {
		t.Fatalf("%s has become %s", short(was), short(r))
	}
	if errno == api.OK {
		if again, errno := ask.DecodeRequest(b); errno != api.OK || !same(again, plainRequest(r)) {
			t.Fatalf("DecodeRequest of EncodeRequest(%s) = %s, %d", short(r), short(again), errno)
		}
		if op, reply, errno := ask.DecodeReply(b); errno != api.ErrBad || op != 0 || !reflect.ValueOf(reply).IsZero() {
			t.Fatalf("a request's bytes are a reply's: %d, %s, %d", op, short(reply), errno)
		}
	}
	return b, errno
}

func checkReply(t *testing.T, op int, r api.Reply) ([]byte, api.Errno) {
	t.Helper()
	was := copied(r)
	want, wantErrno := replyForm(op, r)
	b, errno := ask.EncodeReply(op, r)
	if !bytes.Equal(b, want) || errno != wantErrno || errno != api.OK && b != nil {
		t.Fatalf("EncodeReply(%d, %s) = %.200x, %d, want %.200x, %d", op, short(r), b, errno, want, wantErrno)
	}
	if !same(r, was) {
		t.Fatalf("%s has become %s", short(was), short(r))
	}
	if errno == api.OK {
		if to, again, errno := ask.DecodeReply(b); errno != api.OK || to != op || !same(again, plainReply(op, r)) {
			t.Fatalf("DecodeReply of EncodeReply(%d, %s) = %d, %s, %d", op, short(r), to, short(again), errno)
		}
		if request, errno := ask.DecodeRequest(b); len(b) <= 16384 && errno != api.ErrBad || len(b) > 16384 && errno != api.ErrLong || !reflect.ValueOf(request).IsZero() {
			t.Fatalf("a reply's bytes are a request's: %s, %d", short(request), errno)
		}
	}
	return b, errno
}

// checkBytes holds both Decodes of any bytes against the chapter's words.
func checkBytes(t *testing.T, b []byte) (asRequest, asReply api.Errno) {
	t.Helper()
	was := bytes.Clone(b)
	want, wantErrno := requestOf(b)
	r, errno := ask.DecodeRequest(b)
	if errno != wantErrno || !same(r, want) || errno != api.OK && !reflect.ValueOf(r).IsZero() {
		t.Fatalf("DecodeRequest(%.200x) = %s, %d, want %s, %d", b, short(r), errno, short(want), wantErrno)
	}
	if errno == api.OK {
		if again, errno := ask.EncodeRequest(r); errno != api.OK || !bytes.Equal(again, b) {
			t.Fatalf("EncodeRequest of DecodeRequest(%.200x) = %.200x, %d", b, again, errno)
		}
	}
	wantOp, wantReply, wantBad := replyOf(b)
	op, reply, bad := ask.DecodeReply(b)
	if op != wantOp || bad != wantBad || !same(reply, wantReply) || bad != api.OK && !reflect.ValueOf(reply).IsZero() {
		t.Fatalf("DecodeReply(%.200x) = %d, %s, %d, want %d, %s, %d", b, op, short(reply), bad, wantOp, short(wantReply), wantBad)
	}
	if bad == api.OK {
		if again, errno := ask.EncodeReply(op, reply); errno != api.OK || !bytes.Equal(again, b) {
			t.Fatalf("EncodeReply of DecodeReply(%.200x) = %.200x, %d", b, again, errno)
		}
	}
	if !bytes.Equal(b, was) {
		t.Fatalf("%.200x has become %.200x", was, b)
	}
	return errno, bad
}

// unhex tells bytes that are written in base sixteen.
func unhex(t *testing.T, s string) []byte {
	t.Helper()
	b, err := hex.DecodeString(strings.ReplaceAll(s, " ", ""))
	if err != nil {
		t.Fatal(err)
	}
	return b
}

func source(n uint64) *rand.Rand { return rand.New(rand.NewPCG(23, n)) }

func pick[T any](r *rand.Rand, l ...T) T { return l[r.IntN(len(l))] }

func anyText(r *rand.Rand) string {
	return pick(r, "", "", "a", "x", "/", "/a", "/a/b", "/a/", "/A", "ann", "root", "\x00", "\xff\x80", "é", strings.Repeat("x", r.IntN(40)), strings.Repeat("/a", 8), strings.Repeat("/a", 9), "/"+strings.Repeat("y", 127), strings.Repeat("z", pick(r, 128, 300)))
}

func anyNumber(r *rand.Rand) int64 {
	n := pick[int64](r, 0, 0, 1, 2, 5, 63, 64, 8191, 8192, 1<<60, math.MaxInt64, int64(r.Uint64()>>(1+r.IntN(63))))
	return pick(r, n, n, -n, -n-1)
}

// fill lays anything into all fields; lists have up to most elements.
func fill(r *rand.Rand, v reflect.Value, most int) {
	switch v.Kind() {
	case reflect.String:
		v.SetString(anyText(r))
	case reflect.Bool:
		v.SetBool(r.IntN(2) == 1)
	case reflect.Slice:
		n := r.IntN(most + 1)
		v.Set(reflect.MakeSlice(v.Type(), n, n+r.IntN(2)))
		for i := range n {
			fill(r, v.Index(i), max(most-1, 1))
		}
	case reflect.Struct:
		for i := range v.NumField() {
			fill(r, v.Field(i), most)
		}
	default:
		v.SetInt(anyNumber(r))
	}
}

func anyRequest(r *rand.Rand) api.Request {
	var q api.Request
	fill(r, reflect.ValueOf(&q).Elem(), 3)
	q.Op = 1 + r.IntN(lastOp)
	return q
}

func anyReply(r *rand.Rand) api.Reply {
	var a api.Reply
	fill(r, reflect.ValueOf(&a).Elem(), 3)
	if r.IntN(3) > 0 {
		a.Code = api.OK
	}
	return a
}

// full lays another value into every field, each list with two elements, so that no two places can be taken for each other.
func full(v reflect.Value, next *int64) {
	*next++
	switch v.Kind() {
	case reflect.String:
		v.SetString(fmt.Sprint("t", *next))
	case reflect.Bool:
		v.SetBool(true)
	case reflect.Slice:
		v.Set(reflect.MakeSlice(v.Type(), 2, 2))
		full(v.Index(0), next)
		full(v.Index(1), next)
	case reflect.Struct:
		for i := range v.NumField() {
			full(v.Field(i), next)
		}
	default:
		v.SetInt(*next)
	}
}

func fullRequest(op int) api.Request {
	var r api.Request
	var next int64
	full(reflect.ValueOf(&r).Elem(), &next)
	r.Op = op
	return r
}

func fullReply(code api.Errno) api.Reply {
	var r api.Reply
	var next int64
	full(reflect.ValueOf(&r).Elem(), &next)
	r.Code = code
	return r
}

func encodedRequest(t *testing.T, r api.Request) []byte {
	t.Helper()
	b, errno := ask.EncodeRequest(r)
	if errno != api.OK {
		t.Fatalf("EncodeRequest(%s) = %d", short(r), errno)
	}
	return b
}

func encodedReply(t *testing.T, op int, r api.Reply) []byte {
	t.Helper()
	b, errno := ask.EncodeReply(op, r)
	if errno != api.OK {
		t.Fatalf("EncodeReply(%d, %s) = %d", op, short(r), errno)
	}
	return b
}

// samples: the bytes of a full request and of full replies to each operation.
func samples(t *testing.T) [][]byte {
	t.Helper()
	var l [][]byte
	for op := range lastOp + 1 {
		if op > 0 {
			l = append(l, encodedRequest(t, fullRequest(op)), encodedRequest(t, api.Request{Op: op}))
		}
		for _, code := range []api.Errno{api.OK, api.ErrQuota} {
			l = append(l, encodedReply(t, op, fullReply(code)), encodedReply(t, op, api.Reply{Code: code}))
		}
	}
	return l
}
