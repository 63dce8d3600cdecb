package object_test

import (
	"encoding/binary"
	"encoding/hex"
	"math"
	"math/rand/v2"
	"reflect"
	"regexp"
	"slices"
	"strings"
	"testing"

	"bursar/api"
	"bursar/object"
)

// What follows is the chapter's words over again, by other means: regular expressions, encoding/binary, a reader that gives up by panic.

const (
	nameForm     = `[a-z0-9](?:[a-z0-9-]{0,30}[a-z0-9])?`
	resourceForm = `[a-z0-9](?:[a-z0-9-]*[a-z0-9])?(?:\.[a-z0-9](?:[a-z0-9-]*[a-z0-9])?)*`
	top          = 1 << 60
)

var (
	nameText     = regexp.MustCompile(`\A` + nameForm + `\z`)
	pathText     = regexp.MustCompile(`\A(?:/|(?:/` + nameForm + `){1,8})\z`)
	resourceText = regexp.MustCompile(`\A` + resourceForm + `\z`)
)

func isName(s string) bool { return nameText.MatchString(s) }

func isPath(s string) bool { return len(s) <= 64 && pathText.MatchString(s) }

func isResource(s string) bool { return len(s) <= 48 && resourceText.MatchString(s) }

func isHard(s string) bool {
	if s == "count" {
		return true
	}
	for _, head := range []string{"requests.", "limits."} {
		if strings.HasPrefix(s, head) {
			return isResource(s[len(head):])
		}
	}
	return false
}

// rise tells whether texts stand in their order, none twice.
func rise(l []string) bool {
	return slices.IsSorted(l) && len(slices.Compact(slices.Clone(l))) == len(l)
}

func areAmounts(l []api.Amount, least int, name func(string) bool) bool {
	var names []string
	for _, a := range l {
		if !name(a.Name) || a.Value < 0 {
			return false
		}
		names = append(names, a.Name)
	}
	return len(l) >= least && len(l) <= 16 && rise(names)
}

func isObject(o api.Object) bool {
	var keys, parts []string
	for _, l := range o.Labels {
		if !isName(l.Key) || l.Value != "" && !isName(l.Value) {
			return false
		}
		keys = append(keys, l.Key)
	}
	for _, p := range o.Parts {
		if !isName(p.Name) || !areAmounts(p.Requests, 0, isResource) || !areAmounts(p.Limits, 0, isResource) {
			return false
		}
		parts = append(parts, p.Name)
	}
	numbers := o.Priority >= 0 && o.Priority <= 9 && o.Deadline >= 0 && o.Deadline <= top && o.Version >= 0 && o.Version <= top
	return isPath(o.Path) && isName(o.Name) && numbers && len(keys) <= 16 && rise(keys) && len(parts) >= 1 && len(parts) <= 8 && rise(parts)
}

func isQuota(q api.Quota) bool {
	scope := q.Scope.Kind >= 0 && q.Scope.Kind <= 4 && q.Scope.Arg == 0 || q.Scope.Kind == 5 && q.Scope.Arg >= 0 && q.Scope.Arg <= 9
	return isPath(q.Path) && isName(q.Name) && scope && areAmounts(q.Hard, 1, isHard)
}

func isLimit(l api.LimitRange) bool {
	var names []string
	for _, r := range l.Rules {
		for _, v := range []int64{r.Min, r.Max, r.Default, r.Request, r.Ratio} {
			if v < -1 {
				return false
			}
		}
		if !isResource(r.Resource) {
			return false
		}
		names = append(names, r.Resource)
	}
	return isPath(l.Path) && isName(l.Name) && len(names) >= 1 && len(names) <= 16 && rise(names)
}

func isBinding(b api.Binding) bool {
	return isPath(b.Path) && isName(b.Name) && isName(b.Subject) && b.Verb >= 0 && b.Verb <= 3
}

func textForm(s string) string { return string(binary.AppendUvarint(nil, uint64(len(s)))) + s }

func numberForm(n int64) string { return string(binary.AppendUvarint(nil, uint64(n))) }

func signedForm(n int64) string { return string(binary.AppendVarint(nil, n)) }

func amountsForm(l []api.Amount) string {
	s := numberForm(int64(len(l)))
	for _, a := range l {
		s += textForm(a.Name) + numberForm(a.Value)
	}
	return s
}

func objectForm(o api.Object) string {
	s := "O\x01" + textForm(o.Path) + textForm(o.Name) + numberForm(int64(len(o.Labels)))
	for _, l := range o.Labels {
		s += textForm(l.Key) + textForm(l.Value)
	}
	s += string([]byte{byte(o.Priority)}) + numberForm(o.Deadline) + numberForm(int64(len(o.Parts)))
	for _, p := range o.Parts {
		s += textForm(p.Name) + amountsForm(p.Requests) + amountsForm(p.Limits)
	}
	return s + numberForm(o.Version)
}

func quotaForm(q api.Quota) string {
	return "Q\x01" + textForm(q.Path) + textForm(q.Name) + string([]byte{byte(q.Scope.Kind), byte(q.Scope.Arg)}) + amountsForm(q.Hard)
}

func limitForm(l api.LimitRange) string {
	s := "L\x01" + textForm(l.Path) + textForm(l.Name) + numberForm(int64(len(l.Rules)))
	for _, r := range l.Rules {
		s += textForm(r.Resource)
		for _, v := range []int64{r.Min, r.Max, r.Default, r.Request, r.Ratio} {
			s += signedForm(v)
		}
	}
	return s
}

func bindingForm(b api.Binding) string {
	return "B\x01" + textForm(b.Path) + textForm(b.Name) + textForm(b.Subject) + string([]byte{byte(b.Verb)})
}

// scan reads forms from a text; where none stands it panics, and the one who began catches that.
type scan struct{ left string }

func (s *scan) byte() byte { return s.some(1)[0] }

func (s *scan) some(n int) string {
	part := s.left[:n]
	s.left = s.left[n:]
	return part
}

func (s *scan) number() uint64 {
	n, size := binary.Uvarint([]byte(s.left))
	if size <= 0 || size > 1 && s.left[size-1] == 0 {
		panic("no number")
	}
	s.some(size)
	return n
}

func (s *scan) signed() int64 {
	n := s.number()
	if n&1 == 1 {
		return -int64(n>>1) - 1
	}
	return int64(n >> 1)
}

// up takes a number that may be no more than most.
func (s *scan) up(most uint64) int64 {
	n := s.number()
	if n > most {
		panic("too great")
	}
	return int64(n)
}

func (s *scan) text() string { return s.some(int(s.up(8192))) }

func (s *scan) amounts() []api.Amount {
	var l []api.Amount
	for range s.up(16) {
		l = append(l, api.Amount{Name: s.text(), Value: s.up(math.MaxInt64)})
	}
	return l
}

func (s *scan) object() api.Object {
	o := api.Object{Path: s.text(), Name: s.text()}
	for range s.up(16) {
		o.Labels = append(o.Labels, api.Label{Key: s.text(), Value: s.text()})
	}
	o.Priority, o.Deadline = int(s.byte()), s.up(top)
	for range s.up(8) {
		o.Parts = append(o.Parts, api.Part{Name: s.text(), Requests: s.amounts(), Limits: s.amounts()})
	}
	o.Version = s.up(top)
	return o
}

func (s *scan) quota() api.Quota {
	return api.Quota{Path: s.text(), Name: s.text(), Scope: api.Scope{Kind: int(s.byte()), Arg: int(s.byte())}, Hard: s.amounts()}
}

func (s *scan) limit() api.LimitRange {
	l := api.LimitRange{Path: s.text(), Name: s.text()}
	for range s.up(16) {
		l.Rules = append(l.Rules, api.Rule{Resource: s.text(), Min: s.signed(), Max: s.signed(), Default: s.signed(), Request: s.signed(), Ratio: s.signed()})
	}
	return l
}

func (s *scan) binding() api.Binding {
	return api.Binding{Path: s.text(), Name: s.text(), Subject: s.text(), Verb: int(s.byte())}
}

// family: one kind of records, as the package has it and as the chapter's words say it.
type family[T any] struct {
	letter string
	valid  func(T) api.Errno
	encode func(T) (string, api.Errno)
	decode func(string) (T, api.Errno)
	is     func(T) bool
	form   func(T) string
	read   func(*scan) T
}

var (
	objects  = family[api.Object]{"O", object.ValidObject, object.EncodeObject, object.DecodeObject, isObject, objectForm, (*scan).object}
	quotas   = family[api.Quota]{"Q", object.ValidQuota, object.EncodeQuota, object.DecodeQuota, isQuota, quotaForm, (*scan).quota}
	limits   = family[api.LimitRange]{"L", object.ValidLimit, object.EncodeLimit, object.DecodeLimit, isLimit, limitForm, (*scan).limit}
	bindings = family[api.Binding]{"B", object.ValidBinding, object.EncodeBinding, object.DecodeBinding, isBinding, bindingForm, (*scan).binding}
)

// want tells what Encode should answer.
func (f family[T]) want(record T) (string, api.Errno) {
	if !f.is(record) {
		return "", api.ErrObject
	}
	s := f.form(record)
	if len(s) > 8192 {
		return "", api.ErrLong
	}
	return s, api.OK
}

// reads tells what Decode should answer.
func (f family[T]) reads(text string) (record T, errno api.Errno) {
	defer func() {
		if recover() != nil {
			var none T
			record, errno = none, api.ErrBad
		}
	}()
	s := &scan{left: text}
	if len(text) > 8192 || s.some(2) != f.letter+"\x01" {
		panic("no record")
	}
	record = f.read(s)
	if s.left != "" || !f.is(record) {
		panic("no record")
	}
	return record, api.OK
}

// same: a list that is nil and an empty one are the same; reflect tells the rest.
func same(a, b any) bool { return reflect.DeepEqual(plain(a), plain(b)) }

func plain(a any) any {
	switch a := a.(type) {
	case api.Object:
		a.Labels = append([]api.Label{}, a.Labels...)
		parts := []api.Part{}
		for _, p := range a.Parts {
			parts = append(parts, api.Part{Name: p.Name, Requests: append([]api.Amount{}, p.Requests...), Limits: append([]api.Amount{}, p.Limits...)})
		}
		a.Parts = parts
		return a
	case api.Quota:
		a.Hard = append([]api.Amount{}, a.Hard...)
		return a
	case api.LimitRange:
		a.Rules = append([]api.Rule{}, a.Rules...)
		return a
	}
	return a
}

// check holds Valid and Encode of a record, and Decode of its bytes, against the chapter's words.
func (f family[T]) check(t *testing.T, record T) api.Errno {
	t.Helper()
	want, wantErrno := f.want(record)
	if errno := f.valid(record); errno != wantErrno {
		t.Fatalf("Valid(%+v) = %d, want %d", record, errno, wantErrno)
	}
	s, errno := f.encode(record)
	if s != want || errno != wantErrno {
		t.Fatalf("Encode(%+v) = %q, %d, want %q, %d", record, s, errno, want, wantErrno)
	}
	if errno == api.OK {
		if again, errno := f.decode(s); errno != api.OK || !same(again, record) {
			t.Fatalf("Decode of Encode(%+v) = %+v, %d", record, again, errno)
		}
	}
	return wantErrno
}

// checkText holds Decode of a text against them.
func (f family[T]) checkText(t *testing.T, text string) api.Errno {
	t.Helper()
	want, wantErrno := f.reads(text)
	record, errno := f.decode(text)
	if errno != wantErrno || !same(record, want) {
		t.Fatalf("%s: Decode(%q) = %+v, %d, want %+v, %d", f.letter, text, record, errno, want, wantErrno)
	}
	if errno != api.OK && !reflect.ValueOf(record).IsZero() {
		t.Fatalf("%s: Decode(%q) = %+v beside an error", f.letter, text, record)
	}
	if errno == api.OK {
		if again, errno := f.encode(record); errno != api.OK || again != text {
			t.Fatalf("%s: Encode of Decode(%q) = %q, %d", f.letter, text, again, errno)
		}
	}
	return errno
}

// checkAll asks all four kinds for a text: at most one of them may take it.
func checkAll(t *testing.T, text string) int {
	t.Helper()
	taken := 0
	for _, errno := range []api.Errno{objects.checkText(t, text), quotas.checkText(t, text), limits.checkText(t, text), bindings.checkText(t, text)} {
		if errno == api.OK {
			taken++
		}
	}
	if taken > 1 {
		t.Fatalf("%q is taken by %d kinds", text, taken)
	}
	return taken
}

// unhex tells bytes that are written in base sixteen.
func unhex(t *testing.T, s string) string {
	t.Helper()
	b, err := hex.DecodeString(strings.ReplaceAll(s, " ", ""))
	if err != nil {
		t.Fatal(err)
	}
	return string(b)
}

// amounts of "cpu 1 mem 2".
func amounts(list ...any) []api.Amount {
	var l []api.Amount
	for i := 0; i < len(list); i += 2 {
		l = append(l, api.Amount{Name: list[i].(string), Value: int64(list[i+1].(int))})
	}
	return l
}

func part(name string, requests ...any) api.Part {
	return api.Part{Name: name, Requests: amounts(requests...)}
}

// small is the chapter's object o.
func small() api.Object {
	return api.Object{Path: "/a", Name: "x", Priority: 3, Parts: []api.Part{part("main", "cpu", 500)}, Version: 7}
}

func smallQuota() api.Quota {
	return api.Quota{Path: "/", Name: "q", Scope: api.Scope{Kind: 5, Arg: 9}, Hard: amounts("count", 5000, "limits.cpu", 1, "requests.cpu", 2)}
}

func smallLimit() api.LimitRange {
	return api.LimitRange{Path: "/a", Name: "l", Rules: []api.Rule{{Resource: "cpu", Min: 1, Max: -1, Default: -1, Request: -1, Ratio: -1}}}
}

func smallBinding() api.Binding { return api.Binding{Path: "/a", Name: "b", Subject: "ann", Verb: 2} }

func long(n int) string { return strings.Repeat("x", n) }

// names tells n names of size bytes each that rise.
func names(n, size int) []string {
	var l []string
	for i := range n {
		l = append(l, string(rune('a'+i))+long(size-1))
	}
	return l
}

func amountsOf(l []string, value int64) []api.Amount {
	var a []api.Amount
	for _, name := range l {
		a = append(a, api.Amount{Name: name, Value: value})
	}
	return a
}

func source(n uint64) *rand.Rand { return rand.New(rand.NewPCG(13, n)) }

func pick[T any](r *rand.Rand, l ...T) T { return l[r.IntN(len(l))] }

func anyPath(r *rand.Rand) string {
	return pick(r, "/", "/a", "/a", "/a/b", "/ab", "/a/b/c/d/e/f/g/h", "/"+long(32)+"/"+long(30))
}

func anyName(r *rand.Rand) string { return pick(r, "x", "y", "a-b", "0", long(32)) }

func anyResource(r *rand.Rand) string {
	return pick(r, "cpu", "mem", "a", "b", "c.d", "count", "x-y.z", long(48))
}

func anyValue(r *rand.Rand) int64 {
	return pick[int64](r, 0, 1, 127, 128, 500, 1<<62, math.MaxInt64, int64(r.Uint64()>>(1+r.IntN(63))))
}

func anyStamp(r *rand.Rand) int64 { return pick[int64](r, 0, 1, 127, 128, top-1, top, r.Int64N(top)) }

// risen sorts texts and drops what stands twice.
func risen(l []string) []string {
	slices.Sort(l)
	return slices.Compact(l)
}

func some(r *rand.Rand, most int, one func(*rand.Rand) string) []string {
	var l []string
	for range r.IntN(most + 1) {
		l = append(l, one(r))
	}
	return risen(l)
}

func anyAmounts(r *rand.Rand, one func(*rand.Rand) string) []api.Amount {
	var l []api.Amount
	for _, name := range some(r, 4, one) {
		l = append(l, api.Amount{Name: name, Value: anyValue(r)})
	}
	return l
}

func anyObject(r *rand.Rand) api.Object {
	o := api.Object{Path: anyPath(r), Name: anyName(r), Priority: r.IntN(10), Deadline: anyStamp(r), Version: anyStamp(r)}
	for _, key := range some(r, 3, anyName) {
		o.Labels = append(o.Labels, api.Label{Key: key, Value: pick(r, "", "v", long(32))})
	}
	for _, name := range append([]string{"0"}, some(r, 3, func(r *rand.Rand) string { return pick(r, "a", "b", "c", long(32)) })...) {
		o.Parts = append(o.Parts, api.Part{Name: name, Requests: anyAmounts(r, anyResource), Limits: anyAmounts(r, anyResource)})
	}
	return o
}

func anyHard(r *rand.Rand) string {
	return pick(r, "count", "requests."+anyResource(r), "limits."+anyResource(r))
}

func anyQuota(r *rand.Rand) api.Quota {
	q := api.Quota{Path: anyPath(r), Name: anyName(r), Scope: api.Scope{Kind: r.IntN(6)}}
	if q.Scope.Kind == 5 {
		q.Scope.Arg = r.IntN(10)
	}
	q.Hard = amountsOf(risen(append(some(r, 6, anyHard), anyHard(r))), anyValue(r))
	return q
}

func anyLimit(r *rand.Rand) api.LimitRange {
	l := api.LimitRange{Path: anyPath(r), Name: anyName(r)}
	v := func() int64 { return pick[int64](r, -1, anyValue(r)) }
	for _, name := range risen(append(some(r, 4, anyResource), anyResource(r))) {
		l.Rules = append(l.Rules, api.Rule{Resource: name, Min: v(), Max: v(), Default: v(), Request: v(), Ratio: v()})
	}
	return l
}

func anyBinding(r *rand.Rand) api.Binding {
	return api.Binding{Path: anyPath(r), Name: anyName(r), Subject: anyName(r), Verb: r.IntN(4)}
}
