package server_test

import (
	"fmt"
	"math/rand/v2"
	"slices"
	"strings"
	"testing"

	"bursar/api"
	"bursar/ask"
	"bursar/dev"
	"bursar/object"
	"bursar/server"
	"bursar/store"
)

const off = -1 // a number of a rule that is not set

var none = api.Detail{}

func source(n uint64) *rand.Rand { return rand.New(rand.NewPCG(24, n)) }

func pick[T any](r *rand.Rand, l ...T) T { return l[r.IntN(len(l))] }

func device(t testing.TB, blocks int) *dev.Dev {
	t.Helper()
	d, errno := dev.New(blocks)
	if errno != api.OK {
		t.Fatalf("dev.New(%d): %d", blocks, errno)
	}
	return d
}

func formatted(t testing.TB, blocks, log int) *dev.Dev {
	t.Helper()
	d := device(t, blocks)
	if errno := server.Format(d, log); errno != api.OK {
		t.Fatalf("Format: %d", errno)
	}
	return d
}

func open(t testing.TB, d *dev.Dev) *server.Server {
	t.Helper()
	s, errno := server.Open(d)
	if s == nil || errno != api.OK {
		t.Fatalf("Open: %d", errno)
	}
	return s
}

func opensNot(t testing.TB, d *dev.Dev, want api.Errno) {
	t.Helper()
	if s, errno := server.Open(d); s != nil || errno != want {
		t.Errorf("Open: %v, %d, want %d", s != nil, errno, want)
	}
}

// fresh: the examples' device and server.
func fresh(t testing.TB) (*dev.Dev, *server.Server) {
	t.Helper()
	d := formatted(t, 64, 8)
	return d, open(t, d)
}

// wide: a server with room for whatever a test asks for.
func wide(t testing.TB) (*dev.Dev, *server.Server) {
	t.Helper()
	d := formatted(t, 2048, 256)
	return d, open(t, d)
}

// copied: a device of its own with what is durable on d.
func copied(t testing.TB, d *dev.Dev) *dev.Dev {
	t.Helper()
	other, errno := dev.Of(d.Medium())
	if errno != api.OK {
		t.Fatalf("dev.Of: %d", errno)
	}
	return other
}

func dumped(t testing.TB, s *server.Server) api.Dump {
	t.Helper()
	d, errno := s.Dump()
	if errno != api.OK || d.Version != s.Version() {
		t.Fatalf("Dump: %d, of version %d, want %d", errno, d.Version, s.Version())
	}
	return d
}

// text tells a thing so that two are alike just if their texts are; an empty list and none are.
func text(v any) string { return fmt.Sprintf("%+v", v) }

// as: a request of a subject.
func as(subject string, r api.Request) api.Request {
	r.Subject = subject
	return r
}

func root(r api.Request) api.Request { return as("root", r) }

func dry(r api.Request) api.Request {
	r.Dry = true
	return r
}

// is asks for a reply with nothing but these.
func is(t testing.TB, s *server.Server, r api.Request, want api.Reply) {
	t.Helper()
	if got := s.Do(r); text(got) != text(want) {
		t.Errorf("%+v:\n%+v, want\n%+v", r, got, want)
	}
}

// done asks, and tells what is told; the answer must be OK.
func done(t testing.TB, s *server.Server, r api.Request) api.Reply {
	t.Helper()
	got := s.Do(root(r))
	if got.Code != api.OK {
		t.Fatalf("%+v: %+v", r, got)
	}
	return got
}

func ok(version int64) api.Reply { return api.Reply{Version: version} }

func no(code api.Errno, version int64) api.Reply { return api.Reply{Code: code, Version: version} }

func noBy(code api.Errno, version int64, d api.Detail) api.Reply {
	return api.Reply{Code: code, Version: version, Detail: d}
}

func nodeAdd(path string) api.Request { return api.Request{Op: api.OpNodeAdd, Path: path} }

func nodeDrop(path string) api.Request { return api.Request{Op: api.OpNodeDrop, Path: path} }

func quotaSet(q api.Quota) api.Request { return api.Request{Op: api.OpQuotaSet, Quota: q} }

func limitSet(l api.LimitRange) api.Request { return api.Request{Op: api.OpLimitSet, Limit: l} }

func create(o api.Object) api.Request { return api.Request{Op: api.OpCreate, Object: o} }

func update(o api.Object, must int64) api.Request {
	return api.Request{Op: api.OpUpdate, Object: o, Version: must}
}

func evicting(o api.Object) api.Request { return api.Request{Op: api.OpEvict, Object: o} }

func bind(b api.Binding) api.Request { return api.Request{Op: api.OpBind, Binding: b} }

func named(op int, path, name string) api.Request {
	return api.Request{Op: op, Path: path, Name: name}
}

func remove(path, name string, must int64) api.Request {
	return api.Request{Op: api.OpDelete, Path: path, Name: name, Version: must}
}

func get(path, name string) api.Request { return named(api.OpGet, path, name) }

func list(path string, deep bool, from string, most int, terms ...api.Term) api.Request {
	return api.Request{Op: api.OpList, Path: path, Deep: deep, From: from, Most: most, Terms: terms}
}

func watching(path string, version int64, most int) api.Request {
	return api.Request{Op: api.OpWatch, Path: path, Version: version, Most: most}
}

func plainly(op int) api.Request { return api.Request{Op: op} }

// obj: an object of one part, with a request for cpu unless that is below 0.
func obj(path, name string, priority int, cpu int64) api.Object {
	o := api.Object{Path: path, Name: name, Priority: priority, Parts: []api.Part{{Name: "main"}}}
	if cpu >= 0 {
		o.Parts[0].Requests = []api.Amount{{Name: "cpu", Value: cpu}}
	}
	return o
}

// at: the object with another version.
func at(o api.Object, version int64) api.Object {
	o.Version = version
	return o
}

func hard(path, name, resource string, value int64) api.Quota {
	return api.Quota{Path: path, Name: name, Hard: []api.Amount{{Name: resource, Value: value}}}
}

// giving: a limit range that gives a request of cpu where none is named.
func giving(path, name string, value int64) api.LimitRange {
	return api.LimitRange{Path: path, Name: name, Rules: []api.Rule{{Resource: "cpu", Min: off, Max: off, Default: off, Request: value, Ratio: off}}}
}

func bound(path, name, subject string, verb int) api.Binding {
	return api.Binding{Path: path, Name: name, Subject: subject, Verb: verb}
}

// longest: an object of just api.MaxValue bytes at the versions 0 to 127.
func longest(t testing.TB, path, name string) api.Object {
	t.Helper()
	o := api.Object{Path: path, Name: name, Priority: 9}
	for i := range api.MaxParts {
		p := api.Part{Name: fmt.Sprint("p", i)}
		for k := range api.MaxAmounts {
			p.Requests = append(p.Requests, api.Amount{Name: fmt.Sprintf("r%02d", k) + strings.Repeat("x", 45), Value: 1 << 50})
		}
		o.Parts = append(o.Parts, p)
	}
	bytes, errno := object.EncodeObject(o)
	if errno != api.OK {
		t.Fatalf("EncodeObject: %d", errno)
	}
	// A label more is 68 bytes at most, and a longer value a byte each.
	for left := api.MaxValue - len(bytes); left > 0; {
		n := min(32, max(0, left-34))
		l := api.Label{Key: fmt.Sprintf("l%02d", len(o.Labels)) + strings.Repeat("x", min(29, max(0, left-5))), Value: strings.Repeat("v", n)}
		o.Labels = append(o.Labels, l)
		left -= len(l.Key) + len(l.Value) + 2
	}
	if bytes, errno := object.EncodeObject(o); errno != api.OK || len(bytes) != api.MaxValue {
		t.Fatalf("an object of %d bytes, %d", len(bytes), errno)
	}
	return o
}

// keyOf and the like: the records of a state, by the words of the chapter.
func keyOf(t testing.TB, kind int, path, name string) string {
	t.Helper()
	key, errno := object.Key(kind, path, name)
	if errno != api.OK {
		t.Fatalf("Key(%d, %q, %q): %d", kind, path, name, errno)
	}
	return key
}

func entriesOf(t testing.TB, d api.Dump) []api.Entry {
	t.Helper()
	var l []api.Entry
	lay := func(kind int, path, name, value string, errno api.Errno) {
		t.Helper()
		if errno != api.OK {
			t.Fatalf("the bytes of %d %s %s: %d", kind, path, name, errno)
		}
		l = append(l, api.Entry{Key: keyOf(t, kind, path, name), Value: value})
	}
	for _, path := range d.Nodes {
		if path != "/" {
			lay(api.KindNode, path, "", "", api.OK)
		}
	}
	for _, q := range d.Quotas {
		value, errno := object.EncodeQuota(q)
		lay(api.KindQuota, q.Path, q.Name, value, errno)
	}
	for _, r := range d.Limits {
		value, errno := object.EncodeLimit(r)
		lay(api.KindLimit, r.Path, r.Name, value, errno)
	}
	for _, o := range d.Objects {
		value, errno := object.EncodeObject(o)
		lay(api.KindObject, o.Path, o.Name, value, errno)
	}
	for _, b := range d.Bindings {
		value, errno := object.EncodeBinding(b)
		lay(api.KindBinding, b.Path, b.Name, value, errno)
	}
	slices.SortFunc(l, func(a, b api.Entry) int { return strings.Compare(a.Key, b.Key) })
	return l
}

// laid: a device on which a store with just these entries lies.
func laid(t testing.TB, blocks, log int, version int64, entries ...api.Entry) *dev.Dev {
	t.Helper()
	d := device(t, blocks)
	slices.SortFunc(entries, func(a, b api.Entry) int { return strings.Compare(a.Key, b.Key) })
	if errno := store.Lay(d, log, version, entries); errno != api.OK {
		t.Fatalf("Lay: %d", errno)
	}
	return d
}

// handled asks by bytes.
func handled(t testing.TB, s *server.Server, b []byte) (int, api.Reply) {
	t.Helper()
	bytes := s.Handle(b)
	op, reply, errno := ask.DecodeReply(bytes)
	if errno != api.OK {
		t.Fatalf("Handle(%.20x): %.20x is no reply", b, bytes)
	}
	return op, reply
}
