package ledger_test

import (
	"fmt"
	"math"
	"reflect"
	"slices"
	"strings"
	"testing"

	"bursar/api"
	"bursar/ledger"
)

func TestFirstExample(t *testing.T) {
	l := ledger.New()
	is(t, "Charge", l.Charge(asks("/a/b", "cpu", 500)), api.OK)
	for path, want := range map[string]int64{"/": 500, "/a": 500, "/a/b": 500, "/a/c": 0, "/a/b/c": 0} {
		used(t, l, path, api.Scope{}, "requests.cpu", want)
	}
	used(t, l, "/a", api.Scope{Kind: 2}, "count", 1000)
	used(t, l, "/a", api.Scope{Kind: 1}, "count", 0)
	if n := l.Count("/"); n != 1 {
		t.Errorf("Count = %d", n)
	}
	var want []api.Use
	for _, path := range []string{"/", "/a", "/a/b"} {
		for _, kind := range []int{0, 2, 4, 5} {
			want = append(want, api.Use{Path: path, Scope: api.Scope{Kind: kind}, Resource: "count", Value: 1000}, api.Use{Path: path, Scope: api.Scope{Kind: kind}, Resource: "requests.cpu", Value: 500})
		}
	}
	if rows := l.Rows(); len(rows) != 24 || !slices.Equal(rows, want) {
		t.Errorf("Rows = %v", rows)
	}
}

func TestSecondExample(t *testing.T) {
	first := asks("/a/b", "cpu", 500)
	l := charged(t, first, bare("/a"))
	used(t, l, "/", api.Scope{}, "count", 2000)
	used(t, l, "/a/b", api.Scope{}, "count", 1000)
	if n := l.Count("/a"); n != 2 {
		t.Errorf("Count = %d", n)
	}
	unchanged(t, "Release of more", l, api.ErrLedger, func() api.Errno { return l.Release(asks("/a/b", "cpu", 501)) })
	unchanged(t, "Release elsewhere", l, api.ErrLedger, func() api.Errno { return l.Release(bare("/x")) })
	is(t, "Change", l.Change(first, asks("/a/b", "cpu", most)), api.OK)
	used(t, l, "/a", api.Scope{Kind: 2}, "requests.cpu", most)
	unchanged(t, "Charge beyond", l, api.ErrOver, func() api.Errno { return l.Charge(asks("/z", "cpu", 1)) })
	used(t, l, "/z", api.Scope{}, "count", 0)
	unchanged(t, "Release at no path", l, api.ErrPath, func() api.Errno { return l.Release(bare("/x y")) })
}

func TestThirdExample(t *testing.T) {
	l := charged(t, bare("/a"))
	unchanged(t, "Release of one in NotBest", l, api.ErrLedger, func() api.Errno { return l.Release(asks("/a", "cpu", 0)) })
	is(t, "Release", l.Release(bare("/a")), api.OK)
}

func TestNothingCharged(t *testing.T) {
	empty, errno := ledger.Of([]api.Object{})
	if errno != api.OK {
		t.Fatalf("Of nothing: %d", errno)
	}
	for _, l := range []*ledger.Ledger{ledger.New(), empty, charged(t)} {
		same(t, l, newBook())
		unchanged(t, "Release", l, api.ErrLedger, func() api.Errno { return l.Release(bare("/")) })
		unchanged(t, "Change", l, api.ErrLedger, func() api.Errno { return l.Change(bare("/a"), bare("/a")) })
	}
}

// Why an object isn't right is told in one order, by each call, whatever else it has.
func TestNotRight(t *testing.T) {
	below, over := amounts("mem", -1), amounts("cpu", most, "cpu", 1)
	part := func(lists ...[]api.Amount) []api.Part { return []api.Part{{Requests: slices.Concat(lists...)}} }
	limit := func(lists ...[]api.Amount) []api.Part { return []api.Part{{}, {Limits: slices.Concat(lists...)}} }
	for _, c := range []struct {
		o    api.Object
		want api.Errno
	}{
		{api.Object{Path: "x", Parts: part(over, below)}, api.ErrPath},
		{api.Object{Path: "", Parts: part(over)}, api.ErrPath},
		{api.Object{Path: "/a", Parts: part(over, below)}, api.ErrArg},
		{api.Object{Path: "/a", Parts: limit(over, below)}, api.ErrArg},
		{api.Object{Path: "/", Parts: part(amounts("cpu", 5, "cpu", -5))}, api.ErrArg},
		{api.Object{Path: "/", Parts: part(amounts("cpu", math.MinInt64))}, api.ErrArg},
		{api.Object{Path: "/a", Parts: part(over)}, api.ErrOver},
		{api.Object{Path: "/a", Parts: limit(over)}, api.ErrOver},
		{api.Object{Path: "/a", Parts: part(amounts("cpu", most, "cpu", most, "cpu", 2))}, api.ErrOver},
	} {
		l := charged(t, asks("/a", "cpu", 5))
		ok := asks("/a", "cpu", 5)
		unchanged(t, fmt.Sprintf("Charge(%v)", c.o), l, c.want, func() api.Errno { return l.Charge(c.o) })
		unchanged(t, fmt.Sprintf("Release(%v)", c.o), l, c.want, func() api.Errno { return l.Release(c.o) })
		unchanged(t, fmt.Sprintf("Change(%v, ..)", c.o), l, c.want, func() api.Errno { return l.Change(c.o, ok) })
		unchanged(t, fmt.Sprintf("Change(.., %v)", c.o), l, c.want, func() api.Errno { return l.Change(ok, c.o) })
		for _, list := range [][]api.Object{{c.o}, {ok, c.o}, {ok, c.o, bare("?")}} {
			if l, errno := ledger.Of(list); l != nil || errno != c.want {
				t.Errorf("Of(%v) = %v, %d, want %d", list, l, errno, c.want)
			}
		}
	}
	for _, path := range noPaths {
		l := ledger.New()
		unchanged(t, "Charge at "+path, l, api.ErrPath, func() api.Errno { return l.Charge(bare(path)) })
		unchanged(t, "Release at "+path, l, api.ErrPath, func() api.Errno { return l.Release(bare(path)) })
	}
}

// Change asks for all of the old one ahead of the new one, and judges sums last.
func TestOrderOfChange(t *testing.T) {
	l := charged(t, asks("/a", "cpu", 5), asks("/b", "cpu", most-5))
	there, missing, noPath := asks("/a", "cpu", 5), asks("/a", "mem", 5), bare("?")
	below, over := asks("/a", "cpu", -1), asks("/a", "cpu", most, "cpu", most)
	for _, c := range []struct {
		what     string
		old, now api.Object
		want     api.Errno
	}{
		{"both at no path", noPath, noPath, api.ErrPath},
		{"old below 0, now at no path", below, noPath, api.ErrArg},
		{"old over, now at no path", over, noPath, api.ErrOver},
		{"old at no path, now below 0", noPath, below, api.ErrPath},
		{"old missing, now at no path", missing, noPath, api.ErrLedger},
		{"old missing, now below 0", missing, below, api.ErrLedger},
		{"old missing, now over", missing, over, api.ErrLedger},
		{"old missing, and a sum above", missing, asks("/a", "cpu", 6), api.ErrLedger},
		{"now at no path", there, noPath, api.ErrPath},
		{"now below 0", there, below, api.ErrArg},
		{"now over", there, over, api.ErrOver},
		{"a sum above", there, asks("/a", "cpu", 6), api.ErrOver},
		{"a sum above, elsewhere", there, asks("/c", "cpu", 6), api.ErrOver},
	} {
		unchanged(t, c.what, l, c.want, func() api.Errno { return l.Change(c.old, c.now) })
	}
	is(t, "to the bound, elsewhere", l.Change(there, asks("/c", "cpu", 5)), api.OK)
	is(t, "and back", l.Change(asks("/c", "cpu", 5), there), api.OK)
	same(t, l, newBook().with(there, 1).with(asks("/b", "cpu", most-5), 1))
}

// Change takes what the old one leaves, and nothing that it doesn't.
func TestChangeAtTheBound(t *testing.T) {
	l := charged(t, asks("/a", "cpu", most))
	is(t, "the same", l.Change(asks("/a", "cpu", most), asks("/a", "cpu", most)), api.OK)
	is(t, "to another namespace", l.Change(asks("/a", "cpu", most), asks("/b/c", "cpu", most)), api.OK)
	is(t, "to one above", l.Change(asks("/b/c", "cpu", most), asks("/", "cpu", most)), api.OK)
	is(t, "to one below", l.Change(asks("/", "cpu", most), asks("/b", "cpu", most)), api.OK)
	same(t, l, newBook().with(asks("/b", "cpu", most), 1))
	ends := asks("/b", "cpu", most)
	ends.Deadline, ends.Priority = 7, 4
	is(t, "to other scopes", l.Change(asks("/b", "cpu", most), ends), api.OK)
	same(t, l, newBook().with(ends, 1))
	is(t, "to less", l.Change(ends, bare("/b")), api.OK)
	same(t, l, newBook().with(bare("/b"), 1))
	// What stays charged leaves the new one no more than the rest.
	l = charged(t, asks("/a", "cpu", 10), asks("/b", "cpu", most-10))
	unchanged(t, "one more", l, api.ErrOver, func() api.Errno { return l.Change(asks("/a", "cpu", 10), asks("/a", "cpu", 11)) })
	unchanged(t, "less taken away", l, api.ErrOver, func() api.Errno { return l.Change(asks("/a", "cpu", 9), asks("/a", "cpu", 10)) })
}

// The greatest sum is charged, one more is refused: wherever, of all its sums, the one that is too great stands.
func TestSumsAtTheBound(t *testing.T) {
	prio := func(o api.Object, priority int, deadline int64) api.Object {
		o.Priority, o.Deadline = priority, deadline
		return o
	}
	limit := api.Object{Path: "/a", Parts: []api.Part{{Limits: amounts("cpu", most)}}}
	for _, c := range []struct {
		what  string
		there api.Object
		now   api.Object
		want  api.Errno
	}{
		{"to the bound", asks("/a", "cpu", most-7), asks("/a", "cpu", 7), api.OK},
		{"one more", asks("/a", "cpu", most-7), asks("/a", "cpu", 8), api.ErrOver},
		{"the bound twice", asks("/a", "cpu", most), asks("/a", "cpu", most), api.ErrOver},
		{"0 at the bound", asks("/a", "cpu", most), asks("/a", "cpu", 0), api.OK},
		{"at the root alone", asks("/a", "cpu", most), asks("/b", "cpu", 1), api.ErrOver},
		{"at the root alone, from far below", asks("/b", "cpu", most), asks(deep, "cpu", 1), api.ErrOver},
		{"an object of the root", asks("/a", "cpu", most), asks("/", "cpu", 1), api.ErrOver},
		{"half way up", asks("/a/b", "cpu", most), asks("/a/c", "cpu", 1), api.ErrOver},
		{"the last resource alone", asks("/a", "zzz", most), asks("/a", "cpu", 1, "mem", 1, "zzz", 1), api.ErrOver},
		{"the first resource alone", asks("/a", "aaa", most), asks("/a", "aaa", 1, "mem", 1, "zzz", 1), api.ErrOver},
		{"another resource", asks("/a", "cpu", most), asks("/a", "mem", most), api.OK},
		{"limits beside requests", asks("/a", "cpu", most), limit, api.OK},
		{"limits", limit, limit, api.ErrOver},
		{"another priority and deadline", asks("/a", "cpu", most), prio(asks("/a", "cpu", 1), 9, 7), api.ErrOver},
		{"no priority", asks("/a", "cpu", most), prio(asks("/a", "cpu", 1), 10, 0), api.ErrOver},
		{"an object that names nothing", asks("/a", "cpu", most), bare("/a"), api.OK},
		{"a count that is named", asks("/a", "count", most), bare("/a"), api.OK},
	} {
		l := charged(t, c.there)
		want := newBook().with(c.there, 1)
		is(t, c.what, l.Charge(c.now), c.want)
		if c.want == api.OK {
			want = want.with(c.now, 1)
		}
		same(t, l, want)
		if of, errno := ledger.Of([]api.Object{c.there, c.now}); errno != c.want || (of == nil) != (c.want != api.OK) {
			t.Errorf("%s: Of = %v, %d", c.what, of, errno)
		}
	}
}

// One sum that would be below 0 is enough, whichever it is.
func TestReleaseOfMore(t *testing.T) {
	there := asks("/a/b", "cpu", 5, "mem", 6)
	there.Priority, there.Deadline = 3, 7
	changed := func(f func(*api.Object)) api.Object {
		o := copied(there)
		f(&o)
		return o
	}
	for what, o := range map[string]api.Object{
		"more of the first":      changed(func(o *api.Object) { o.Parts[0].Requests[0].Value++ }),
		"more of the last":       changed(func(o *api.Object) { o.Parts[0].Requests[1].Value++ }),
		"another resource":       changed(func(o *api.Object) { o.Parts[0].Requests[0].Name = "disk" }),
		"one resource more":      changed(func(o *api.Object) { o.Parts[0].Requests = append(o.Parts[0].Requests, amounts("zzz", 1)...) }),
		"the bound":              changed(func(o *api.Object) { o.Parts[0].Requests[0].Value = most }),
		"limits":                 changed(func(o *api.Object) { o.Parts[0].Limits = amounts("cpu", 1) }),
		"another priority":       changed(func(o *api.Object) { o.Priority = 4 }),
		"no deadline":            changed(func(o *api.Object) { o.Deadline = 0 }),
		"names nothing":          changed(func(o *api.Object) { o.Parts = nil }),
		"below it":               changed(func(o *api.Object) { o.Path = "/a/b/c" }),
		"beside it":              changed(func(o *api.Object) { o.Path = "/a/c" }),
		"beside it, from a line": changed(func(o *api.Object) { o.Path = "/b" }),
	} {
		l := charged(t, there)
		unchanged(t, what, l, api.ErrLedger, func() api.Errno { return l.Release(o) })
		unchanged(t, what+" by Change", l, api.ErrLedger, func() api.Errno { return l.Change(o, bare("/")) })
		is(t, what+": then what is there", l.Release(there), api.OK)
		same(t, l, newBook())
	}
}

// What is released need not be what was charged, if the sums allow it.
func TestReleaseOfOthers(t *testing.T) {
	l := charged(t, asks("/a", "cpu", 500), asks("/a", "cpu", 500))
	is(t, "300 of two 500", l.Release(asks("/a", "cpu", 300)), api.OK)
	used(t, l, "/a", api.Scope{}, "requests.cpu", 700)
	unchanged(t, "then 701", l, api.ErrLedger, func() api.Errno { return l.Release(asks("/a", "cpu", 701)) })
	is(t, "700", l.Release(asks("/a", "cpu", 700)), api.OK)
	same(t, l, newBook())
	// A part of an object's amounts, and one that lies above it.
	l = charged(t, asks("/a/b", "cpu", 5, "mem", 6))
	is(t, "from above", l.Release(asks("/a", "cpu", 5)), api.OK)
	if n := l.Count("/a"); n != 0 || l.Count("/a/b") != 1 || l.Count("/") != 0 {
		t.Errorf("Count = %d, below it %d", n, l.Count("/a/b"))
	}
	used(t, l, "/a/b", api.Scope{}, "requests.cpu", 5)
	used(t, l, "/a", api.Scope{}, "requests.cpu", 0)
	used(t, l, "/", api.Scope{}, "requests.mem", 6)
	// The count above it is gone, so that what is still charged below can't go.
	unchanged(t, "what is left", l, api.ErrLedger, func() api.Errno { return l.Release(asks("/a/b", "cpu", 0)) })
	// Priorities that are none are all the same.
	o := bare("/a")
	o.Priority = 12
	l = charged(t, o)
	unchanged(t, "a priority", l, api.ErrLedger, func() api.Errno { return l.Release(bare("/a")) })
	o.Priority = -1
	is(t, "another that is none", l.Release(o), api.OK)
	same(t, l, newBook())
}

// A sum of 0 is not told, though its resource is named; the object counts in its scopes.
func TestAmountsOfZero(t *testing.T) {
	l := charged(t, asks("/", "cpu", 0))
	var want []api.Use
	for _, kind := range []int{0, 2, 4, 5} {
		want = append(want, api.Use{Path: "/", Scope: api.Scope{Kind: kind}, Resource: "count", Value: 1000})
	}
	if rows := l.Rows(); !slices.Equal(rows, want) {
		t.Errorf("Rows = %v", rows)
	}
	used(t, l, "/", api.Scope{}, "requests.cpu", 0)
	is(t, "Release of another resource of 0", l.Release(asks("/", "mem", 0)), api.OK)
	same(t, l, newBook())
}

// The order is that of the lists of names, not of the paths' bytes; then kind and argument, then resource.
func TestOrderOfRows(t *testing.T) {
	// "-" is below every letter and digit, and as a byte below "/".
	ordered := []string{"/", "/0", "/a", "/a/b", "/a/b/c", "/a/b-c", "/a/b0", "/a--b", "/a-b", "/a-b/c", "/a0", "/ab", "/b", "/z"}
	var objects []api.Object
	for _, path := range ordered {
		for priority := range 10 {
			o := asks(path, "mem", 1, "cpu", 1, "\xff", 1, "", 1)
			o.Priority, o.Deadline = priority, int64(priority%2)
			objects = append(objects, o, api.Object{Path: path, Parts: []api.Part{{Limits: amounts("z", 1)}}})
		}
	}
	slices.Reverse(objects)
	rows := charged(t, objects...).Rows()
	var told []string
	for i, row := range rows {
		if i == 0 || rows[i-1].Path != row.Path {
			told = append(told, row.Path)
		}
		if i > 0 && compareUses(rows[i-1], row) >= 0 {
			t.Errorf("%v stands ahead of %v", rows[i-1], row)
		}
	}
	if !slices.Equal(told, ordered) {
		t.Errorf("the order of paths: %q, want %q", told, ordered)
	}
	var resources []string
	for _, row := range rows {
		if row.Path == "/" && row.Scope == (api.Scope{Kind: 5, Arg: 0}) {
			resources = append(resources, row.Resource)
		}
	}
	if want := []string{"count", "limits.z", "requests.", "requests.cpu", "requests.mem", "requests.\xff"}; !slices.Equal(resources, want) {
		t.Errorf("the order of resources: %q, want %q", resources, want)
	}
}

// The longest paths that there are have sums at each path of their lines.
func TestLongPaths(t *testing.T) {
	l := charged(t, asks(deep, "cpu", 3), asks(long, "cpu", 4))
	same(t, l, newBook().with(asks(deep, "cpu", 3), 1).with(asks(long, "cpu", 4), 1))
	if n := len(l.Rows()); n != (9+3-1)*4*2 {
		t.Errorf("%d rows", n)
	}
	if l.Count(deep) != 1 || l.Count("/a/b/c/d") != 1 || l.Count("/") != 2 || l.Count(long) != 1 || l.Count(long[:32]) != 1 {
		t.Error("Count")
	}
}

// Nothing but path, parts, deadline and priority is looked at.
func TestOtherFieldsMakeNoDifference(t *testing.T) {
	o := asks("/a", "cpu", 5)
	odd := api.Object{Path: "/a", Name: "?", Version: -1, Labels: []api.Label{{Key: "B"}, {Key: "A", Value: "?"}}, Parts: []api.Part{{}, {Name: "?", Requests: amounts("cpu", 2, "cpu", 3)}}}
	l := charged(t, odd)
	same(t, l, newBook().with(o, 1))
	is(t, "Change", l.Change(o, odd), api.OK)
	is(t, "Release", l.Release(o), api.OK)
	same(t, l, newBook())
}

func TestManyObjectsAndAmounts(t *testing.T) {
	l := ledger.New()
	for i := range 20000 {
		is(t, "Charge", l.Charge(asks("/a", "cpu", i)), api.OK)
	}
	used(t, l, "/", api.Scope{}, "requests.cpu", 19999*20000/2)
	used(t, l, "/a", api.Scope{Kind: 2}, "count", 20000*1000)
	if n := l.Count("/a"); n != 20000 {
		t.Errorf("Count = %d", n)
	}
	o := asks("/b")
	for i := range 3000 {
		o.Parts = append(o.Parts, api.Part{Requests: amounts(fmt.Sprint(i), i+1), Limits: amounts(strings.Repeat("n", i), 1)})
	}
	rows := len(l.Rows())
	is(t, "Charge of many amounts", l.Charge(o), api.OK)
	if n := len(l.Rows()) - rows; n != 4*(6001+6000) { // the four counts of the root are there already
		t.Errorf("%d rows more", n)
	}
	is(t, "Release of many amounts", l.Release(o), api.OK)
	if n := len(l.Rows()); n != rows {
		t.Errorf("%d rows, there were %d", n, rows)
	}
}

// roomy gives every list of an object spare room with something in it, and tells all of that memory.
func roomy(o api.Object) (api.Object, []any) {
	all := []any{}
	room := func(l []api.Amount) []api.Amount {
		whole := append(slices.Clone(l), amounts("spare", -7, "cpu", -7)...)
		all = append(all, whole)
		return whole[:len(l)]
	}
	parts := append(slices.Clone(o.Parts), api.Part{Name: "spare", Requests: amounts("spare", -7)}, api.Part{Name: "spare"})
	for i := range o.Parts {
		parts[i].Requests, parts[i].Limits = room(parts[i].Requests), room(parts[i].Limits)
	}
	labels := append(slices.Clone(o.Labels), api.Label{Key: "spare"})
	o.Parts, o.Labels = parts[:len(o.Parts)], labels[:len(o.Labels)]
	return o, append(all, parts, labels)
}

func TestHandedInStays(t *testing.T) {
	for seed := range uint64(300) {
		r := source(seed)
		plain, next := anyObject(r, seed%2 == 0), anyObject(r, seed%2 == 0)
		o, memory := roomy(plain)
		n, more := roomy(next)
		list := []api.Object{o, n, {Path: "spare"}}
		l := ledger.New()
		l.Charge(o)
		l.Change(o, n)
		l.Release(n)
		ledger.Of(list[:2])
		again, wantMemory := roomy(plain)
		nextAgain, wantMore := roomy(next)
		if !reflect.DeepEqual(list, []api.Object{again, nextAgain, {Path: "spare"}}) || !reflect.DeepEqual(memory, wantMemory) || !reflect.DeepEqual(more, wantMore) {
			t.Fatalf("seed %d: %#v, %#v are now %#v, %#v", seed, again, nextAgain, o, n)
		}
	}
}

// Writing into an object, a list or an answer changes no ledger; no two ledgers, no two answers share.
func TestNothingIsShared(t *testing.T) {
	o := asks("/a", "cpu", 5, "mem", 6)
	list := []api.Object{o, bare("/b")}
	one, two := charged(t, list...), charged(t, list...)
	want := newBook().with(copied(o), 1).with(bare("/b"), 1)
	o.Parts[0].Requests[0] = api.Amount{Name: "spoilt", Value: 9}
	list[1] = bare("/spoilt")
	same(t, one, want)
	first, second := one.Rows(), one.Rows()
	for i := range first[:cap(first)] {
		first[:cap(first)][i] = api.Use{Path: "/spoilt", Value: -1}
	}
	if !slices.Equal(second, want.rows()) {
		t.Errorf("two answers of Rows share memory: %v", second)
	}
	same(t, one, want)
	is(t, "Release", one.Release(bare("/b")), api.OK)
	is(t, "Charge", one.Charge(bare("/c")), api.OK)
	same(t, two, want)
	if !slices.Equal(second, want.rows()) {
		t.Errorf("an answer of Rows changes with the ledger: %v", second)
	}
	three, four := ledger.New(), ledger.New()
	is(t, "Charge", three.Charge(bare("/")), api.OK)
	same(t, four, newBook())
}
