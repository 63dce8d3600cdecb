package server

import (
	"runtime"
	"slices"
	"strings"
	"testing"
	"unsafe"

	"bursar/api"
	"bursar/ask"
	"bursar/dev"
)

// The operations that only look are those that ask says don't change; each operation has its function.
func TestOperations(t *testing.T) {
	for op := -1; op <= api.OpEnd; op++ {
		is := op > 0 && op < api.OpEnd
		if looks(op) != (is && !ask.Changes(op)) {
			t.Errorf("looks(%d) = %v", op, looks(op))
		}
		if is && operations()[op] == nil {
			t.Errorf("operation %d does nothing", op)
		}
	}
}

// A page takes what it has room for, and asks for one more only to know whether there are others; the producer is stopped there, and has ended.
func TestPage(t *testing.T) {
	for n := range 8 {
		for most := range 8 {
			sent, ended := 0, false
			all := func(yield func(int) bool) {
				defer func() { ended = true }()
				for i := range n {
					sent++
					if !yield(i) {
						return
					}
				}
			}
			list, more := page(all, most)
			want := min(n, most)
			if len(list) != want || want > 0 && list[want-1] != want-1 || more != (n > most) || !ended {
				t.Errorf("page of %d of %d: %v, %v, ended %v", most, n, list, more, ended)
			}
			// One is on its way when the page is known to be full.
			if sent > most+2 {
				t.Errorf("page of %d of %d: %d were sent", most, n, sent)
			}
		}
	}
}

// However long a producer might go on, it ends with its page.
func TestEndlessProducer(t *testing.T) {
	before := runtime.NumGoroutine()
	for range 200 {
		list, more := page(func(yield func(int) bool) {
			for i := 0; yield(i); i++ {
			}
		}, 5)
		if !slices.Equal(list, []int{0, 1, 2, 3, 4}) || !more {
			t.Fatalf("page: %v, %v", list, more)
		}
	}
	for range 1000 {
		if runtime.NumGoroutine() <= before {
			return
		}
		runtime.Gosched()
	}
	t.Errorf("%d goroutines, were %d", runtime.NumGoroutine(), before)
}

func made(t *testing.T) *Server {
	t.Helper()
	d, errno := dev.New(256)
	if errno != api.OK || Format(d, 32) != api.OK {
		t.Fatal("Format")
	}
	s, errno := Open(d)
	if errno != api.OK {
		t.Fatalf("Open: %d", errno)
	}
	return s
}

// cut tells texts that are pieces of one long text, and whether another is such a piece.
func cut(texts ...string) ([]string, func(string) bool) {
	long := strings.Join(texts, "") + strings.Repeat("?", 1<<10)
	from := uintptr(unsafe.Pointer(unsafe.StringData(long)))
	inside := func(s string) bool {
		at := uintptr(unsafe.Pointer(unsafe.StringData(s)))
		return s != "" && at >= from && at < from+uintptr(len(long))
	}
	var pieces []string
	rest := long
	for _, text := range texts {
		pieces = append(pieces, rest[:len(text)])
		rest = rest[len(text):]
	}
	return pieces, inside
}

// kept tells the texts that a server holds.
func (s *Server) kept(t *testing.T) []string {
	t.Helper()
	entries, _, errno := s.store.Scan("", "", 1<<20)
	if errno != api.OK {
		t.Fatalf("Scan: %d", errno)
	}
	var all []string
	for _, entry := range entries {
		all = append(all, entry.Key, entry.Value)
	}
	watched, _, errno := s.hub.Since(s.hub.Low(), root, api.MaxPage)
	if errno != api.OK {
		t.Fatalf("Since: %d", errno)
	}
	for _, e := range watched {
		all = append(all, e.Path, e.Name)
	}
	for _, b := range s.table.List() {
		all = append(all, b.Path, b.Name, b.Subject)
	}
	d := s.world.Dump()
	all = append(all, d.Nodes...)
	return all
}

// A server keeps none of the texts that it was handed, which may be pieces of long ones.
func TestKeepsNoPieces(t *testing.T) {
	pieces, inside := cut("/a", "x", "cpu", "main", "ann", "requests.cpu", "/a/b")
	path, name, cpu := pieces[0], pieces[1], pieces[2]
	o := api.Object{Path: path, Name: name, Labels: []api.Label{{Key: name, Value: name}}, Parts: []api.Part{{Name: pieces[3], Requests: []api.Amount{{Name: cpu, Value: 1}}}}}
	s := made(t)
	for _, r := range []api.Request{
		{Op: api.OpNodeAdd, Path: path}, {Op: api.OpNodeAdd, Path: pieces[6]},
		{Op: api.OpQuotaSet, Quota: api.Quota{Path: path, Name: name, Hard: []api.Amount{{Name: pieces[5], Value: 1}}}},
		{Op: api.OpLimitSet, Limit: api.LimitRange{Path: path, Name: name, Rules: []api.Rule{{Resource: cpu, Min: 1, Max: -1, Default: -1, Request: -1, Ratio: -1}}}},
		{Op: api.OpBind, Binding: api.Binding{Path: path, Name: name, Subject: pieces[4]}},
		{Op: api.OpCreate, Object: o}, {Op: api.OpUpdate, Object: o}, {Op: api.OpDelete, Path: path, Name: name}, {Op: api.OpEvict, Object: o},
		{Op: api.OpNodeDrop, Path: pieces[6]}, {Op: api.OpGet, Path: path}, {Op: api.OpList, Path: path, From: name, Most: 1}, {Op: api.OpWatch, Path: path, Version: 0, Most: 1},
	} {
		r.Subject = rootSubject
		if reply := s.Do(r); reply.Code != api.OK {
			t.Fatalf("%+v: %+v", r, reply)
		}
		for _, text := range s.kept(t) {
			if inside(text) {
				t.Fatalf("behind %d %q is held by the text that it was cut from", r.Op, text)
			}
		}
	}
}

// A settled outcome is the one that was found out: the drafts leave the state as it was.
func TestFindingOutChangesNothing(t *testing.T) {
	s := made(t)
	o := api.Object{Path: "/a", Name: "x", Parts: []api.Part{{Name: "main"}}}
	for _, r := range []api.Request{
		{Op: api.OpNodeAdd, Path: "/a"},
		{Op: api.OpQuotaSet, Quota: api.Quota{Path: "/a", Name: "q", Hard: []api.Amount{{Name: "count", Value: 1000}}}},
		{Op: api.OpQuotaSet, Quota: api.Quota{Path: "/a", Name: "q", Scope: api.Scope{Kind: api.ScopeBest}, Hard: []api.Amount{{Name: "count", Value: 2000}}}},
		{Op: api.OpLimitSet, Limit: api.LimitRange{Path: "/a", Name: "l", Rules: []api.Rule{{Resource: "cpu", Min: -1, Max: -1, Default: -1, Request: 1, Ratio: -1}}}},
		{Op: api.OpBind, Binding: api.Binding{Path: "/a", Name: "b", Subject: "ann"}},
		{Op: api.OpCreate, Object: o}, {Op: api.OpUpdate, Object: o}, {Op: api.OpDelete, Path: "/a", Name: "x"}, {Op: api.OpEvict, Object: o},
		{Op: api.OpUnbind, Path: "/a", Name: "b"}, {Op: api.OpQuotaDrop, Path: "/a", Name: "q"}, {Op: api.OpLimitDrop, Path: "/a", Name: "l"},
		{Op: api.OpDelete, Path: "/a", Name: "x"}, {Op: api.OpNodeDrop, Path: "/a"},
	} {
		r.Subject = rootSubject
		world, table, bindings, stat := s.world, s.table, len(s.table.List()), s.Stat()
		out := operations()[r.Op](s, r)
		if out.reply.Code != api.OK || len(out.records) == 0 || out.settle == nil {
			t.Fatalf("%+v: %+v", r, out.reply)
		}
		if s.world != world || s.table != table || len(s.table.List()) != bindings || s.Stat() != stat || s.hub.High() != stat.Version {
			t.Fatalf("finding out %+v has changed something", r)
		}
		if reply := s.Do(r); reply.Code != api.OK || s.hub.High() != stat.Version+1 {
			t.Fatalf("%+v: %+v", r, reply)
		}
	}
}
