package server_test

import (
	"fmt"
	"math"
	"slices"
	"strings"
	"testing"

	"bursar/api"
	"bursar/ask"
	"bursar/server"
	"bursar/store"
)

// P24.1: the chapter's examples, one behind the other.
func TestExamples(t *testing.T) {
	d, s := fresh(t)
	// 1
	if got := dumped(t, s); text(got) != text(api.Dump{Nodes: []string{"/"}}) || s.Version() != 0 {
		t.Errorf("a new one: %+v", got)
	}
	is(t, s, root(nodeAdd("/a")), ok(1))
	is(t, s, root(nodeAdd("/a")), no(api.ErrNode, 1))
	is(t, s, root(dry(nodeAdd("/b"))), ok(1))
	is(t, s, root(get("/", "")), api.Reply{Version: 1, Names: []string{"/a"}})
	is(t, s, root(get("/b", "")), no(api.ErrNoNode, 1))
	is(t, s, root(get("b", "")), no(api.ErrPath, 1))
	// 2
	x := obj("/a", "x", 0, 600)
	is(t, s, root(create(x)), api.Reply{Version: 2, Objects: []api.Object{at(x, 2)}})
	is(t, s, root(dry(create(obj("/a", "y", 0, 1)))), api.Reply{Version: 2, Objects: []api.Object{at(obj("/a", "y", 0, 1), 3)}})
	is(t, s, root(quotaSet(hard("/a", "q", "requests.cpu", 599))), noBy(api.ErrBelow, 2, api.Detail{Path: "/a", Name: "q", Resource: "requests.cpu"}))
	is(t, s, root(update(x, 7)), no(api.ErrConflict, 2))
	is(t, s, root(watching("/", 0, 9)), api.Reply{Version: 2, Events: []api.Event{{Version: 1, Kind: api.KindNode, Path: "/a"}, {Version: 2, Kind: api.KindObject, Path: "/a", Name: "x"}}})
	// 3
	is(t, s, as("ann", get("/a", "x")), noBy(api.ErrDenied, 2, api.Detail{Path: "/a"}))
	is(t, s, root(bind(bound("/a", "b", "ann", api.Read))), ok(3))
	is(t, s, as("ann", get("/a", "x")), api.Reply{Version: 3, Objects: []api.Object{at(x, 2)}})
	is(t, s, as("ann", remove("/a", "x", 0)), noBy(api.ErrDenied, 3, api.Detail{Path: "/a"}))
	is(t, s, root(bind(bound("/c", "b", "ann", api.Read))), no(api.ErrNoNode, 3))
	is(t, s, as("", get("/a", "x")), noBy(api.ErrDenied, 3, api.Detail{Path: "/a"}))
	for _, op := range []int{20, 0} {
		is(t, s, root(plainly(op)), no(api.ErrOp, 3))
	}
	// 4
	is(t, s, root(quotaSet(hard("/a", "q", "count", 1000))), ok(4))
	z := at(obj("/a", "z", 5, 1), 5)
	is(t, s, root(evicting(obj("/a", "z", 5, 1))), api.Reply{Version: 5, Objects: []api.Object{at(x, 2), z}})
	is(t, s, root(watching("/", 4, 9)), api.Reply{Version: 5, Events: []api.Event{{Version: 5, Kind: api.KindObject, Gone: true, Path: "/a", Name: "x"}, {Version: 5, Kind: api.KindObject, Path: "/a", Name: "z"}}})
	is(t, s, root(nodeDrop("/a")), no(api.ErrFull, 5))
	is(t, s, root(remove("/a", "z", 0)), api.Reply{Version: 6, Objects: []api.Object{z}})
	is(t, s, root(nodeDrop("/a")), ok(7))
	is(t, s, root(watching("/", 6, 9)), api.Reply{Version: 7, Events: []api.Event{
		{Version: 7, Kind: api.KindQuota, Gone: true, Path: "/a", Name: "q"}, {Version: 7, Kind: api.KindBinding, Gone: true, Path: "/a", Name: "b"}, {Version: 7, Kind: api.KindNode, Gone: true, Path: "/a"}}})
	// 5
	is(t, s, root(plainly(api.OpSync)), ok(7))
	was := text(dumped(t, s))
	s = open(t, d)
	if now := text(dumped(t, s)); now != was || s.Version() != 7 {
		t.Errorf("opened again: %s, was %s", now, was)
	}
	is(t, s, root(watching("/", 0, 9)), no(api.ErrGone, 7))
	is(t, s, root(watching("/", 7, 9)), ok(7))
	d.Arm(0)
	is(t, s, root(plainly(api.OpSync)), no(api.ErrDown, 7))
	is(t, s, root(plainly(api.OpStat)), no(api.ErrDown, 7))
	if op, reply := handled(t, s, []byte("x")); op != 0 || text(reply) != text(no(api.ErrBad, 7)) {
		t.Errorf("Handle of a dead one: %d, %+v", op, reply)
	}
	if got, errno := s.Dump(); text(got) != text(api.Dump{}) || errno != api.ErrDown {
		t.Errorf("Dump of a dead one: %+v, %d", got, errno)
	}
	// 6
	_, s = fresh(t)
	if op, reply := handled(t, s, nil); op != 0 || text(reply) != text(no(api.ErrBad, 0)) {
		t.Errorf("Handle of nothing: %d, %+v", op, reply)
	}
	opensNot(t, laid(t, 64, 8, 0, api.Entry{Key: "x"}), api.ErrCorrupt)
}

// A dead server says so ahead of all else, whatever is asked, and tells its version and what its store tells.
func TestDead(t *testing.T) {
	d, s := fresh(t)
	done(t, s, nodeAdd("/a"))
	d.Arm(0)
	// What needs no act is still done: nobody has met the device that is down.
	is(t, s, root(nodeAdd("/b")), ok(2))
	is(t, s, root(get("/", "")), api.Reply{Version: 2, Names: []string{"/a", "/b"}})
	is(t, s, root(plainly(api.OpCheckpoint)), no(api.ErrDown, 2))
	for op := -1; op <= api.OpEnd; op++ {
		for _, subject := range []string{"root", "ann", ""} {
			is(t, s, as(subject, plainly(op)), no(api.ErrDown, 2))
		}
	}
	is(t, s, root(nodeAdd("/c")), no(api.ErrDown, 2))
	is(t, s, root(dry(nodeAdd("/c"))), no(api.ErrDown, 2))
	is(t, s, root(list("/", true, "", 0)), no(api.ErrDown, 2))
	_, b, _ := plain(root(plainly(api.OpStat)))
	if op, reply := handled(t, s, b); op != api.OpStat || text(reply) != text(no(api.ErrDown, 2)) {
		t.Errorf("Handle of a dead one: %d, %+v", op, reply)
	}
	if stat := s.Stat(); s.Version() != 2 || stat != (api.Stat{Generation: 2, Epoch: 2, Version: 2, Entries: 2, Unsynced: 2}) {
		t.Errorf("of a dead one: version %d, %+v", s.Version(), stat)
	}
	// A crash of the device doesn't wake it up.
	d.Crash(nil)
	is(t, s, root(plainly(api.OpStat)), no(api.ErrDown, 2))
	if again := open(t, d); again.Version() != 0 {
		t.Errorf("nothing was durable, but the version is %d", again.Version())
	}
}

// A change that finds the log full makes a checkpoint, and dies of it where the device goes down: then nothing is changed.
func TestDiesWithinChange(t *testing.T) {
	for acts := range 4 {
		d, s := fresh(t)
		done(t, s, nodeAdd("/a"))
		for i := 0; s.Stat().LogFree > 60; i++ {
			done(t, s, quotaSet(hard("/a", fmt.Sprint("q", i%10), "count", int64(1000*i))))
		}
		version := s.Version()
		q := hard("/a", strings.Repeat("q", 32), "requests."+strings.Repeat("r", 48), 1)
		d.Arm(acts)
		is(t, s, root(dry(quotaSet(q))), ok(version))
		is(t, s, root(quotaSet(q)), no(api.ErrDown, version))
		is(t, s, root(get("/", "")), no(api.ErrDown, version))
		d.Crash(nil)
		if again := open(t, d); again.Version() != 0 && again.Version() != version {
			t.Errorf("behind %d acts the version is %d", acts, again.Version())
		}
	}
}

// Where somebody spoilt the tree, a checkpoint says so, a change's own one too: nothing is changed, and the server isn't dead.
func TestSpoiltTree(t *testing.T) {
	d, s := fresh(t)
	done(t, s, nodeAdd("/a"))
	done(t, s, plainly(api.OpCheckpoint))
	for block := 10; block < 64; block++ {
		if errno := d.Edit(block, 0, make([]byte, 512)); errno != api.OK {
			t.Fatalf("Edit: %d", errno)
		}
	}
	done(t, s, nodeAdd("/b"))
	is(t, s, root(plainly(api.OpCheckpoint)), no(api.ErrCorrupt, 2))
	is(t, s, root(get("/", "")), api.Reply{Version: 2, Names: []string{"/a", "/b"}})
	q := hard("/b", strings.Repeat("q", 32), "requests."+strings.Repeat("r", 48), 1)
	room := 1 + 2 + 1 + 1 + (1 + 43) + (1 + 106) // of the record: letter, version, count, Gone, key, value
	for i := 0; s.Stat().LogFree >= room; i++ {
		q.Hard[0].Value = int64(i % 2)
		done(t, s, quotaSet(q))
	}
	version, before := s.Version(), text(dumped(t, s))
	q.Hard[0].Value = 2
	is(t, s, root(dry(quotaSet(q))), ok(version))
	is(t, s, root(quotaSet(q)), no(api.ErrCorrupt, version))
	if text(dumped(t, s)) != before {
		t.Errorf("behind ErrCorrupt: %s, was %s", text(dumped(t, s)), before)
	}
	is(t, s, root(watching("/", version, 1)), ok(version))
	is(t, s, root(plainly(api.OpSync)), ok(version))
}

// Whom access lets may, and no one else; root may all, also where there is no such namespace.
func TestWhoMay(t *testing.T) {
	_, s := wide(t)
	for _, path := range []string{"/a", "/a/b", "/b"} {
		done(t, s, nodeAdd(path))
	}
	done(t, s, create(obj("/a", "x", 0, 1)))
	for verb, subject := range []string{"reader", "writer", "governor", "binder"} {
		done(t, s, bind(bound("/a", subject, subject, verb)))
	}
	at := s.Version()
	needs := []struct {
		verb int
		path string // of which the reply says that it is denied
		r    api.Request
	}{
		{api.Govern, "/a", nodeAdd("/a/c")},
		{api.Govern, "/a", nodeDrop("/a")},
		{api.Govern, "/a/b", nodeDrop("/a/b")},
		{api.Govern, "/a", quotaSet(hard("/a", "q", "count", 5000))},
		{api.Govern, "/a", named(api.OpQuotaDrop, "/a", "q")},
		{api.Govern, "/a/b", limitSet(giving("/a/b", "l", 1))},
		{api.Govern, "/a", named(api.OpLimitDrop, "/a", "l")},
		{api.Write, "/a", create(obj("/a", "y", 0, 1))},
		{api.Write, "/a", update(obj("/a", "x", 0, 1), 0)},
		{api.Write, "/a", remove("/a", "x", 0)},
		{api.Govern, "/a", evicting(obj("/a", "y", 0, 1))},
		{api.Read, "/a", get("/a", "x")},
		{api.Read, "/a/b", get("/a/b", "")},
		{api.Read, "/a", list("/a", true, "", 1)},
		{api.Read, "/a", named(api.OpStatus, "/a", "q")},
		{api.Read, "/a", watching("/a", at, 1)},
		{api.Bind, "/a/b", bind(bound("/a/b", "b", "ann", api.Read))},
		{api.Bind, "/a", named(api.OpUnbind, "/a", "none")},
	}
	for _, c := range needs {
		c.r.Dry = true
		for verb, subject := range []string{"reader", "writer", "governor", "binder", "nobody"} {
			if verb == 4 {
				verb = -1
			}
			got := s.Do(as(subject, c.r))
			if denied := got.Code == api.ErrDenied; denied != (verb < c.verb) {
				t.Errorf("%s: %+v: %+v", subject, c.r, got)
			} else if denied && text(got) != text(noBy(api.ErrDenied, at, api.Detail{Path: c.path})) {
				t.Errorf("%s: %+v: %+v", subject, c.r, got)
			}
		}
		if got := s.Do(root(c.r)); got.Code == api.ErrDenied {
			t.Errorf("root: %+v: %+v", c.r, got)
		}
	}
	// Beside and above the binding nothing may be done.
	for _, r := range []api.Request{get("/b", ""), get("/", ""), nodeAdd("/c"), plainly(api.OpSync), plainly(api.OpCheckpoint), plainly(api.OpStat), watching("/", at, 1), bind(bound("/b", "b", "binder", api.Bind))} {
		if got := s.Do(as("binder", r)); got.Code != api.ErrDenied {
			t.Errorf("%+v: %+v", r, got)
		}
	}
	// The namespace is told as it was asked for.
	for _, path := range []string{"", "a", "/A", "//", "/none", strings.Repeat("/x", 40)} {
		is(t, s, as("binder", get(path, "x")), noBy(api.ErrDenied, at, api.Detail{Path: path}))
	}
	is(t, s, as("nobody", nodeAdd("/a/b/c")), noBy(api.ErrDenied, at, api.Detail{Path: "/a/b"}))
	is(t, s, as("nobody", nodeAdd("x")), noBy(api.ErrDenied, at, api.Detail{Path: "x"}))
	is(t, s, root(get("x", "")), no(api.ErrPath, at))
	is(t, s, root(get("x", "y")), no(api.ErrMissing, at))
	// Who is no name is nobody, be he bound as he may.
	for _, subject := range []string{"", "Root", "root ", "/", "-a", strings.Repeat("r", 33), "\x00"} {
		is(t, s, as(subject, get("/a", "x")), noBy(api.ErrDenied, at, api.Detail{Path: "/a"}))
		is(t, s, as(subject, plainly(0)), no(api.ErrOp, at))
	}
}

// What a governor bound takes away, he loses at once; a namespace that goes takes its bindings with it, and no others.
func TestBindings(t *testing.T) {
	_, s := wide(t)
	for _, path := range []string{"/a", "/a/b", "/ab"} {
		done(t, s, nodeAdd(path))
		done(t, s, bind(bound(path, "b", "ann", api.Bind)))
	}
	is(t, s, as("ann", api.Request{Op: api.OpUnbind, Path: "/ab", Name: "b"}), ok(7))
	is(t, s, as("ann", get("/ab", "")), noBy(api.ErrDenied, 7, api.Detail{Path: "/ab"}))
	is(t, s, root(named(api.OpUnbind, "/ab", "b")), no(api.ErrMissing, 7))
	is(t, s, root(named(api.OpUnbind, "ab", "b")), no(api.ErrPath, 7))
	is(t, s, root(nodeDrop("/a")), no(api.ErrChildren, 7))
	is(t, s, as("ann", nodeDrop("/a/b")), ok(8))
	is(t, s, root(nodeAdd("/a/b")), ok(9))
	if l := dumped(t, s).Bindings; text(l) != text([]api.Binding{bound("/a", "b", "ann", api.Bind)}) {
		t.Errorf("bindings: %v", l)
	}
	// Orders of refusals: the form, the namespace, the number.
	is(t, s, root(bind(bound("/none", "B", "ann", 0))), no(api.ErrObject, 9))
	is(t, s, root(bind(bound("/a", "c", "ann", 4))), no(api.ErrObject, 9))
	is(t, s, root(bind(bound("/a", "c", "", 0))), no(api.ErrObject, 9))
	is(t, s, root(bind(bound("x", "c", "ann", 0))), no(api.ErrObject, 9))
	for i := range 15 {
		done(t, s, bind(bound("/a", fmt.Sprint("c", i), "bob", i%4)))
	}
	is(t, s, root(bind(bound("/a", "d", "ann", 0))), no(api.ErrMany, 24))
	is(t, s, root(bind(bound("/a", "d", "ann", 9))), no(api.ErrObject, 24))
	is(t, s, root(bind(bound("/a/c", "d", "ann", 0))), no(api.ErrNoNode, 24))
	is(t, s, root(bind(bound("/a", "b", "carl", 0))), ok(25))
	is(t, s, root(bind(bound("/", "d", "ann", 0))), ok(26))
	is(t, s, as("ann", get("/ab", "")), ok(26))
}

// Of each kind sixteen stand at a namespace, and all that a namespace has goes with it, in order.
func TestNodeDrop(t *testing.T) {
	_, s := wide(t)
	done(t, s, nodeAdd("/a"))
	done(t, s, nodeAdd("/a/b"))
	var want []api.Event
	name := func(kind, i int) string { return fmt.Sprintf("%c%02d", "nqlob"[kind], i) }
	for i := 15; i >= 0; i-- {
		done(t, s, quotaSet(hard("/a/b", name(api.KindQuota, i), "count", 1000)))
		done(t, s, limitSet(giving("/a/b", name(api.KindLimit, i), 1)))
		done(t, s, bind(bound("/a/b", name(api.KindBinding, i), "ann", i%4)))
	}
	at := s.Version()
	is(t, s, root(quotaSet(hard("/a/b", "r", "count", 1000))), no(api.ErrMany, at))
	is(t, s, root(limitSet(giving("/a/b", "m", 1))), no(api.ErrMany, at))
	is(t, s, root(quotaSet(hard("/a/b", "q00", "count", 2000))), ok(at+1))
	is(t, s, root(limitSet(giving("/a/b", "l00", 2))), ok(at+2))
	for _, path := range []string{"/", "/a"} {
		done(t, s, quotaSet(hard(path, "q", "count", 1000)))
		done(t, s, limitSet(giving(path, "l", 1)))
		done(t, s, bind(bound(path, "b", "ann", 0)))
	}
	at = s.Version()
	for _, kind := range []int{api.KindQuota, api.KindLimit, api.KindBinding} {
		for i := range 16 {
			want = append(want, api.Event{Version: at + 1, Kind: kind, Gone: true, Path: "/a/b", Name: name(kind, i)})
		}
	}
	want = append(want, api.Event{Version: at + 1, Kind: api.KindNode, Gone: true, Path: "/a/b"})
	for _, c := range []struct {
		path string
		code api.Errno
	}{{"a", api.ErrPath}, {"/", api.ErrRoot}, {"/c", api.ErrNoNode}, {"/a", api.ErrChildren}} {
		is(t, s, root(nodeDrop(c.path)), no(c.code, at))
	}
	is(t, s, root(dry(nodeDrop("/a/b"))), ok(at))
	is(t, s, root(nodeDrop("/a/b")), ok(at+1))
	is(t, s, root(watching("/", at, 1)), api.Reply{Version: at + 1, Events: want})
	if d := dumped(t, s); len(d.Quotas) != 2 || len(d.Limits) != 2 || len(d.Bindings) != 2 || len(d.Nodes) != 2 {
		t.Errorf("what is left: %+v", d)
	}
	done(t, s, nodeAdd("/a/b"))
	if d := dumped(t, s); len(d.Quotas) != 2 || len(d.Limits) != 2 || len(d.Bindings) != 2 || len(d.Nodes) != 3 {
		t.Errorf("what is there again: %+v", d)
	}
}

// What lies there already is not judged anew: it can be deleted whatever the limit ranges say now, and told dry.
func TestDeleteOfWhatWouldBeRefused(t *testing.T) {
	_, s := wide(t)
	x := obj("/", "x", 0, 500)
	done(t, s, create(x))
	l := giving("/", "l", off)
	l.Rules[0].Min = 1000
	done(t, s, limitSet(l))
	is(t, s, root(update(x, 0)), noBy(api.ErrMin, 2, api.Detail{Path: "/", Name: "l", Part: "main", Resource: "cpu"}))
	for _, c := range []struct {
		name string
		must int64
		code api.Errno
	}{{"x", -1, api.ErrArg}, {"y", api.MaxStamp + 1, api.ErrArg}, {"y", 1, api.ErrMissing}, {"x", 2, api.ErrConflict}, {"X", 0, api.ErrMissing}} {
		is(t, s, root(remove("/", c.name, c.must)), no(c.code, 2))
		is(t, s, root(dry(remove("/", c.name, c.must))), no(c.code, 2))
	}
	is(t, s, root(remove("none", "x", 0)), no(api.ErrMissing, 2))
	is(t, s, root(dry(remove("/", "x", 1))), api.Reply{Version: 2, Objects: []api.Object{at(x, 1)}})
	is(t, s, root(get("/", "x")), api.Reply{Version: 2, Objects: []api.Object{at(x, 1)}})
	is(t, s, root(remove("/", "x", 1)), api.Reply{Version: 3, Objects: []api.Object{at(x, 1)}})
	is(t, s, root(get("/", "x")), no(api.ErrMissing, 3))
}

// crowd: a server with n objects that use 2 of cpu each, below a quota that they fill.
func crowd(t *testing.T, n int) *server.Server {
	t.Helper()
	_, s := wide(t)
	done(t, s, nodeAdd("/a"))
	for i := range n {
		done(t, s, create(obj("/a", fmt.Sprint("x", i), 0, 2)))
	}
	done(t, s, quotaSet(hard("/a", "q", "requests.cpu", int64(2*n))))
	return s
}

// An eviction takes as many as a plan may have, as one change; one that would take more does nothing.
func TestGreatEvictions(t *testing.T) {
	s := crowd(t, 64)
	next := s.Version() + 1
	reply := done(t, s, evicting(obj("/a", "n", 1, 128)))
	if len(reply.Objects) != 65 || reply.Version != next || reply.Objects[64].Name != "n" || reply.Objects[64].Version != next || reply.Objects[0].Name != "x63" {
		t.Errorf("evicted: %+v", reply)
	}
	watched := done(t, s, watching("/a", next-1, 100)).Events
	for i, o := range reply.Objects {
		if want := (api.Event{Version: next, Kind: api.KindObject, Gone: i < 64, Path: "/a", Name: o.Name}); watched[i] != want {
			t.Errorf("event %d: %+v, want %+v", i, watched[i], want)
		}
	}
	s = crowd(t, 65)
	before := text(dumped(t, s))
	is(t, s, root(evicting(obj("/a", "n", 1, 130))), no(api.ErrNoWay, s.Version()))
	if text(dumped(t, s)) != before {
		t.Errorf("behind ErrNoWay: %s, was %s", text(dumped(t, s)), before)
	}
	// Where there is room nothing goes; where a plan is refused no Detail is told.
	_, s = wide(t)
	is(t, s, root(evicting(obj("/", "n", 1, 1))), api.Reply{Version: 1, Objects: []api.Object{at(obj("/", "n", 1, 1), 1)}})
	is(t, s, root(evicting(obj("/", "n", 1, 1))), no(api.ErrExists, 1))
	done(t, s, quotaSet(hard("/", "q", "requests.mem", 1)))
	is(t, s, root(evicting(obj("/", "m", 1, 1))), no(api.ErrUnset, 2))
	is(t, s, root(create(obj("/", "m", 1, 1))), noBy(api.ErrUnset, 2, api.Detail{Path: "/", Name: "q", Part: "main", Resource: "requests.mem"}))
	is(t, s, root(evicting(obj("/none", "m", 1, 1))), no(api.ErrNoNode, 2))
	is(t, s, root(evicting(obj("/", "M", 1, 1))), no(api.ErrObject, 2))
}

// An object whose record is as long as may be is taken at the versions up to 127 and refused behind them, by each of the operations that lay one.
func TestLongestObject(t *testing.T) {
	n := longest(t, "/a", "n")
	small := obj("/a", "x", 0, -1)
	for _, c := range []struct {
		version int64 // of the server
		code    api.Errno
	}{{126, api.OK}, {127, api.ErrLong}} {
		there := api.Dump{Nodes: []string{"/a"}, Objects: []api.Object{at(small, 9)}, Quotas: []api.Quota{hard("/a", "q", "count", 1000)}}
		for _, r := range []api.Request{evicting(n), create(n), update(n, 0)} {
			d := there
			switch r.Op {
			case api.OpCreate:
				d.Quotas = nil
			case api.OpUpdate:
				old := obj("/a", "n", 0, -1)
				d.Objects = []api.Object{old}
			}
			s := open(t, laid(t, 512, 64, c.version, entriesOf(t, d)...))
			before := text(dumped(t, s))
			told := s.Do(root(dry(r)))
			if told.Code != c.code || told.Version != c.version || text(dumped(t, s)) != before {
				t.Errorf("dry %d at %d: %d, %d", r.Op, c.version, told.Code, told.Version)
			}
			got := s.Do(root(r))
			if got.Code != c.code || text(got.Objects) != text(told.Objects) {
				t.Errorf("%d at %d: %d, %d objects", r.Op, c.version, got.Code, len(got.Objects))
			}
			if c.code != api.OK && (text(got) != text(no(api.ErrLong, c.version)) || text(dumped(t, s)) != before) {
				t.Errorf("%d at %d: %+v", r.Op, c.version, got)
			}
		}
	}
	// In a log that is too short for it, it is a resource that refuses.
	s := open(t, laid(t, 512, 8, 0, entriesOf(t, api.Dump{Nodes: []string{"/a"}})...))
	before := text(dumped(t, s))
	is(t, s, root(create(n)), no(api.ErrLogFull, 0))
	if text(dumped(t, s)) != before || done(t, s, dry(create(n))).Objects[0].Version != 1 {
		t.Errorf("behind ErrLogFull: %s, was %s", text(dumped(t, s)), before)
	}
	is(t, s, root(nodeAdd("/b")), ok(1))
}

// As many children as a list may have are told, and whether there are more; by name, and just those right below.
func TestChildren(t *testing.T) {
	for _, n := range []int{0, 1, 4095, 4096, 4097, 4200} {
		d := api.Dump{Nodes: []string{"/b", "/b/x", "/b-c"}}
		var want []string
		for i := range n {
			path := fmt.Sprintf("/b/x/%x", i)
			d.Nodes = append(d.Nodes, path)
			want = append(want, path)
		}
		slices.Sort(want)
		if n > 0 {
			d.Nodes = append(d.Nodes, want[0]+"/y")
		}
		s := open(t, laid(t, 4096, 8, 3, entriesOf(t, d)...))
		is(t, s, root(get("/b/x", "")), api.Reply{Version: 3, Names: want[:min(n, 4096)], More: n > 4096})
		is(t, s, root(get("/", "")), api.Reply{Version: 3, Names: []string{"/b", "/b-c"}})
		is(t, s, root(get("/b", "")), api.Reply{Version: 3, Names: []string{"/b/x"}})
		_, b, _ := plain(root(get("/b/x", "")))
		if _, reply := handled(t, s, b); len(reply.Names) != min(n, 4096) || reply.More != (n > 4096) {
			t.Errorf("by bytes: %d children of %d, %v", len(reply.Names), n, reply.More)
		}
	}
}

// Pages of every length, from every place, with and without what is below, tell all objects once.
func TestPages(t *testing.T) {
	_, s := wide(t)
	var all []string
	for _, path := range []string{"/a", "/a/c", "/a-b"} {
		done(t, s, nodeAdd(path))
		for i := range 101 {
			o := obj(path, fmt.Sprintf("x%03d", i), 0, 1)
			if i%2 == 0 {
				o.Labels = []api.Label{{Key: "even", Value: "yes"}}
			}
			done(t, s, create(o))
			all = append(all, path+" "+o.Name)
		}
	}
	version := s.Version()
	walk := func(path string, deep bool, most int, terms ...api.Term) []string {
		var told []string
		for from := ""; ; {
			reply := done(t, s, list(path, deep, from, most, terms...))
			if len(reply.Objects) > most || reply.More && len(reply.Objects) < most || reply.Version != version {
				t.Fatalf("a page of %d: %d, more %v, version %d", most, len(reply.Objects), reply.More, reply.Version)
			}
			for _, o := range reply.Objects {
				told = append(told, o.Path+" "+o.Name)
				from = o.Name
				if deep {
					from = o.Path + " " + o.Name
				}
			}
			if !reply.More {
				return told
			}
		}
	}
	for _, most := range []int{1, 2, 50, 99, 100} {
		if got := walk("/", true, most); !slices.Equal(got, all) {
			t.Errorf("pages of %d: %q", most, got)
		}
		if got := walk("/a", false, most); !slices.Equal(got, all[:101]) {
			t.Errorf("pages of %d of /a: %q", most, got)
		}
		if got := walk("/a", true, most, api.Term{Key: "even", How: api.Has}); len(got) != 102 {
			t.Errorf("pages of %d with a term: %d", most, len(got))
		}
	}
	// Just a page, and one more than that.
	done(t, s, remove("/a", "x100", 0))
	version++
	if reply := done(t, s, list("/a", false, "", 100)); len(reply.Objects) != 100 || reply.More {
		t.Errorf("just a page: %d, %v", len(reply.Objects), reply.More)
	}
	if reply := done(t, s, list("/a-b", false, "", 100)); len(reply.Objects) != 100 || !reply.More {
		t.Errorf("one more than a page: %d, %v", len(reply.Objects), reply.More)
	}
	for _, c := range []struct {
		r    api.Request
		code api.Errno
	}{
		{list("x", true, "?", 0), api.ErrArg}, {list("x", true, "?", 101), api.ErrArg}, {list("x", true, "?", math.MinInt), api.ErrArg},
		{list("x", true, "?", 1), api.ErrPath}, {list("/x", true, "?", 1), api.ErrNoNode}, {list("/", true, "?", 1, api.Term{}), api.ErrTerm}, {list("/", true, "x", 1), api.ErrArg}, {list("/", false, "/a x", 1), api.ErrArg},
	} {
		is(t, s, root(c.r), no(c.code, version))
	}
}

// The status of a quota, and its absence.
func TestStatus(t *testing.T) {
	_, s := wide(t)
	done(t, s, create(obj("/", "x", 0, 7)))
	q := hard("/", "q", "count", 5000)
	q.Hard = append(q.Hard, api.Amount{Name: "requests.cpu", Value: 9})
	done(t, s, quotaSet(q))
	is(t, s, root(named(api.OpStatus, "/", "q")), api.Reply{Version: 2, Lines: []api.Line{{Resource: "count", Hard: 5000, Used: 1000}, {Resource: "requests.cpu", Hard: 9, Used: 7}}})
	is(t, s, root(named(api.OpStatus, "/", "r")), no(api.ErrMissing, 2))
	is(t, s, root(named(api.OpStatus, "x", "q")), no(api.ErrMissing, 2))
	is(t, s, root(named(api.OpQuotaDrop, "/", "r")), no(api.ErrMissing, 2))
	is(t, s, root(named(api.OpLimitDrop, "/", "q")), no(api.ErrMissing, 2))
	is(t, s, root(dry(named(api.OpQuotaDrop, "/", "q"))), ok(2))
	is(t, s, root(named(api.OpQuotaDrop, "/", "q")), ok(3))
	is(t, s, root(named(api.OpStatus, "/", "q")), no(api.ErrMissing, 3))
	done(t, s, limitSet(giving("/", "l", 1)))
	is(t, s, root(named(api.OpLimitDrop, "/", "l")), ok(5))
	is(t, s, root(named(api.OpLimitDrop, "/", "l")), no(api.ErrMissing, 5))
}

// The watch's refusals in their order; it tells its own version, also where nothing lies in the path.
func TestWatch(t *testing.T) {
	_, s := wide(t)
	done(t, s, nodeAdd("/a"))
	for i := range 200 {
		o := obj("/a", "x", 0, int64(i))
		if i == 0 {
			done(t, s, create(o))
			continue
		}
		done(t, s, update(o, 0))
	}
	for _, c := range []struct {
		r    api.Request
		code api.Errno
	}{
		{watching("x", -1, 0), api.ErrArg}, {watching("x", -1, 101), api.ErrArg}, {watching("x", -1, 1), api.ErrPath},
		{watching("/", -1, 1), api.ErrGone}, {watching("/", 72, 1), api.ErrGone}, {watching("/", 202, 1), api.ErrFuture}, {watching("/", math.MaxInt64, 1), api.ErrFuture},
	} {
		is(t, s, root(c.r), no(c.code, 201))
	}
	if reply := done(t, s, watching("/", 73, 100)); len(reply.Events) != 100 || reply.Version != 173 {
		t.Errorf("from 73 on: %d events, version %d", len(reply.Events), reply.Version)
	}
	is(t, s, root(watching("/b", 73, 1)), ok(201))
	is(t, s, root(watching("/", 201, 1)), ok(201))
	is(t, s, root(watching("/", 200, 1)), api.Reply{Version: 201, Events: []api.Event{{Version: 201, Kind: api.KindObject, Path: "/a", Name: "x"}}})
}

// Sync and Checkpoint are the store's, and so is what Stat tells.
func TestStore(t *testing.T) {
	d, s := fresh(t)
	want := api.Stat{Generation: 2, Epoch: 2, LogFree: 3708}
	stat := func() {
		t.Helper()
		if s.Stat() != want {
			t.Errorf("Stat: %+v, want %+v", s.Stat(), want)
		}
		is(t, s, root(plainly(api.OpStat)), api.Reply{Version: want.Version, Stat: want})
	}
	stat()
	done(t, s, nodeAdd("/a")) // c3 01 01 00 09 n 00 01 / a 00 01 00 01 00: 15 bytes, and 4
	want.Version, want.LogFree, want.Entries, want.Unsynced = 1, 3708-19, 1, 1
	stat()
	is(t, s, root(dry(nodeAdd("/b"))), ok(1))
	is(t, s, root(nodeAdd("/a")), no(api.ErrNode, 1))
	stat()
	is(t, s, root(plainly(api.OpSync)), ok(1))
	want.LogFree, want.Unsynced = 7*464-4, 0
	stat()
	is(t, s, root(dry(plainly(api.OpCheckpoint))), ok(1)) // dry says nothing here
	want.Generation, want.LogFree = 3, 3708
	stat()
	is(t, s, root(dry(plainly(api.OpSync))), ok(1))
	stat()
	below, errno := store.Open(copied(t, d))
	if errno != api.OK || below.Version() != 1 || below.Stat().Entries != 1 {
		t.Errorf("the store: %d, %+v", errno, below.Stat())
	}
}

// Bytes that are no request get ErrBad, whatever is wrong with them; each request's bytes get what Do answers.
func TestHandle(t *testing.T) {
	_, s := wide(t)
	done(t, s, nodeAdd("/a"))
	_, right, _ := plain(root(nodeAdd("/b")))
	bad := [][]byte{nil, {}, {82}, {82, 1}, {82, 1, 0}, {82, 1, 20}, {82, 1, 255}, {82, 2, 17, 0}, {65, 1, 0, 4, 0, 0, 0, 0, 0}, append(slices.Clone(right), 0), make([]byte, 16385), make([]byte, 1<<20)}
	for n := range right {
		bad = append(bad, right[:n])
	}
	before := text(dumped(t, s))
	for _, b := range bad {
		was := slices.Clone(b)
		if op, reply := handled(t, s, b); op != 0 || text(reply) != text(no(api.ErrBad, 1)) {
			t.Errorf("Handle(%.20x): %d, %+v", b, op, reply)
		}
		if !slices.Equal(b, was) || text(dumped(t, s)) != before {
			t.Errorf("Handle(%.20x) has changed something", b)
		}
	}
	if got := s.Handle([]byte("x")); string(got) != "A\x01\x00\x04\x02\x00\x00\x00\x00" {
		t.Errorf("Handle(x): %x", got)
	}
	if op, reply := handled(t, s, right); op != api.OpNodeAdd || text(reply) != text(ok(2)) {
		t.Errorf("Handle: %d, %+v", op, reply)
	}
}

// P24.1: any bytes, and any bytes that begin as a request, get a reply.
func TestAnyBytes(t *testing.T) {
	r := source(5000)
	b := newBoth(t, 512, 32)
	b.begin(r)
	refused := 0
	for range 4000 {
		q := anyRequest(r, b.paper)
		_, bytes, is := plain(q)
		if !is {
			continue
		}
		for range 1 + r.IntN(3) {
			at := r.IntN(len(bytes))
			switch r.IntN(3) {
			case 0:
				bytes[at] ^= 1 << r.IntN(8)
			case 1:
				bytes = append(bytes, byte(r.IntN(256)))
			case 2:
				bytes = slices.Delete(bytes, at, at+1)
			}
			if len(bytes) == 0 {
				break
			}
		}
		asked, errno := ask.DecodeRequest(bytes)
		if errno != api.OK {
			refused++
			if op, reply := handled(t, b.s, bytes); op != 0 || text(reply) != text(no(api.ErrBad, b.s.Version())) {
				t.Fatalf("Handle(%x): %d, %+v", bytes, op, reply)
			}
			b.same()
			continue
		}
		b.ask(asked, true)
	}
	if refused < 500 {
		t.Errorf("%d were refused", refused)
	}
}
