package fsck_test

import (
	"fmt"
	"math"
	"slices"
	"testing"

	"bursar/api"
	"bursar/dev"
	"bursar/fsck"
	"bursar/server"
	"bursar/store"
)

// judged asks Records: all problems, and that fewer are the beginning of them.
func judged(t testing.TB, l []api.Entry) []api.Problem {
	t.Helper()
	all := fsck.Records(l, api.MaxFound)
	if len(all) > api.MaxFound {
		t.Errorf("Records tells %d problems", len(all))
	}
	for _, most := range []int{math.MinInt, -1, 0, 1, 2, 63, 64, 65, math.MaxInt} {
		want := all[:min(max(0, most), len(all))]
		if got := fsck.Records(l, most); !slices.Equal(got, want) {
			t.Errorf("Records of at most %d: %v, want %v", most, got, want)
		}
	}
	return all
}

// opens asks whether a server opens over what is durable on a device.
func opens(t testing.TB, d *dev.Dev, want bool) {
	t.Helper()
	s, errno := server.Open(copied(t, d))
	if (s != nil) != want || (errno == api.OK) != want || !want && errno != api.ErrCorrupt {
		t.Errorf("server.Open: %v, %d, want %v", s != nil, errno, want)
	}
}

// several: 16 and more records of a kind.
func several(n int, record func(name string) api.Entry) []api.Entry {
	var l []api.Entry
	for i := range n {
		l = append(l, record(fmt.Sprintf("r%02d", i)))
	}
	return l
}

func TestRecords(t *testing.T) {
	a, ab, b := nodeEntry(t, "/a"), nodeEntry(t, "/a/b"), nodeEntry(t, "/b")
	o := func(path, name string, cpu int64) api.Entry { return objectEntry(t, obj(path, name, 0, cpu)) }
	q := func(path, name, resource string, value int64) api.Entry {
		return quotaEntry(t, hard(path, name, resource, value))
	}
	scoped := func(path, name string, s api.Scope, hard ...api.Amount) api.Entry {
		return quotaEntry(t, api.Quota{Path: path, Name: name, Scope: s, Hard: hard})
	}
	value := func(e api.Entry) string { return e.Value }
	x := o("/a", "x", 5)
	const most = math.MaxInt64
	quotas := several(18, func(name string) api.Entry { return q("/", name, "count", 0) })
	limits := several(18, func(name string) api.Entry { return limitEntry(t, giving("/", name, 1)) })
	bindings := several(18, func(name string) api.Entry { return bindingEntry(t, bound("/", name, "ann", 0)) })
	objects := several(18, func(name string) api.Entry { return o("/", name, 1) })
	for _, c := range []struct {
		what string
		l    []api.Entry
		want []api.Problem
	}{
		// The chapter's example 5.
		{"none", nil, nil},
		{"a key that is none", []api.Entry{entry("x", "")}, p(22, 1)},
		{"a namespace below none", []api.Entry{ab}, p(23, 1)},
		{"a quota of none", []api.Entry{o("/", "x", -1), q("/", "q", "count", 0)}, p(26, 2)},

		// Rule 21.
		{"in order", []api.Entry{a, ab, b}, nil},
		{"a key twice", []api.Entry{a, a}, p(21, 2)},
		{"a key thrice", []api.Entry{a, a, a}, p(21, 2, 21, 3)},
		{"the wrong way round", []api.Entry{ab, a}, p(21, 2, 23, 1)},
		{"out of order, and none", []api.Entry{a, entry("", "")}, p(21, 2, 22, 2)},
		{"above the one ahead, that is out of order", []api.Entry{b, a, ab}, p(21, 2, 23, 3)},
		{"ahead of its own, behind one that is none", []api.Entry{ab, entry("", ""), a}, p(21, 2, 22, 2)},
		{"the same, behind one that is none", []api.Entry{a, entry("", ""), a}, p(21, 2, 22, 2)},
		{"no key is above none", []api.Entry{entry("", ""), entry("", "")}, p(21, 2, 22, 1, 22, 2)},

		// Rule 22.
		{"the empty key", []api.Entry{entry("", "")}, p(22, 1)},
		{"a key of two parts", []api.Entry{entry("o\x00\x01/a\x00\x01", value(x))}, p(22, 1)},
		{"a key of another letter", []api.Entry{entry("x\x00\x01/a\x00\x01x\x00\x01", value(x))}, p(22, 1)},
		{"a key with a wrong path", []api.Entry{entry("n\x00\x01/A\x00\x01\x00\x01", "")}, p(22, 1)},
		{"a namespace with a name", []api.Entry{entry("n\x00\x01/a\x00\x01x\x00\x01", "")}, p(22, 1)},
		{"a namespace with a value", []api.Entry{under(t, api.KindNode, "/a", "", "x")}, p(22, 1)},
		{"the root", []api.Entry{nodeEntry(t, "/")}, p(22, 1)},
		{"an object without bytes", []api.Entry{under(t, api.KindObject, "/", "x", "")}, p(22, 1)},
		{"an object of another path", []api.Entry{a, under(t, api.KindObject, "/", "x", value(x))}, p(22, 2)},
		{"an object of another name", []api.Entry{a, under(t, api.KindObject, "/a", "y", value(x))}, p(22, 2)},
		{"an object with a byte more", []api.Entry{a, under(t, api.KindObject, "/a", "x", value(x)+"\x00")}, p(22, 2)},
		{"an object with a byte less", []api.Entry{a, under(t, api.KindObject, "/a", "x", value(x)[:len(value(x))-1])}, p(22, 2)},
		{"an object with a quota's bytes", []api.Entry{under(t, api.KindObject, "/", "q", value(q("/", "q", "count", 1)))}, p(22, 1)},
		{"a quota of another path", []api.Entry{a, under(t, api.KindQuota, "/a", "q", value(q("/", "q", "count", 1)))}, p(22, 2)},
		{"a quota of another name", []api.Entry{under(t, api.KindQuota, "/", "q", value(q("/", "r", "count", 1)))}, p(22, 1)},
		{"a quota with a limit range's bytes", []api.Entry{under(t, api.KindQuota, "/", "q", value(limitEntry(t, giving("/", "q", 1))))}, p(22, 1)},
		{"a limit range of another path", []api.Entry{under(t, api.KindLimit, "/", "l", value(limitEntry(t, giving("/a", "l", 1))))}, p(22, 1)},
		{"a limit range of another name", []api.Entry{under(t, api.KindLimit, "/", "l", value(limitEntry(t, giving("/", "m", 1))))}, p(22, 1)},
		{"a limit range without bytes", []api.Entry{under(t, api.KindLimit, "/", "l", "")}, p(22, 1)},
		{"a binding of another path", []api.Entry{under(t, api.KindBinding, "/", "b", value(bindingEntry(t, bound("/a", "b", "ann", 0))))}, p(22, 1)},
		{"a binding of another name", []api.Entry{under(t, api.KindBinding, "/", "b", value(bindingEntry(t, bound("/", "c", "ann", 0))))}, p(22, 1)},
		{"a binding with an object's bytes", []api.Entry{under(t, api.KindBinding, "/", "x", value(o("/", "x", 1)))}, p(22, 1)},
		{"all kinds at the root", []api.Entry{bindingEntry(t, bound("/", "b", "ann", 3)), limitEntry(t, giving("/", "l", 1)), o("/", "o", 1), q("/", "q", "count", 1000)}, nil},

		// Rule 23.
		{"all kinds at a namespace", []api.Entry{bindingEntry(t, bound("/a", "b", "ann", 3)), limitEntry(t, giving("/a", "l", 1)), a, x, q("/a", "q", "count", 1000)}, nil},
		{"all kinds at none", []api.Entry{bindingEntry(t, bound("/a", "b", "ann", 3)), limitEntry(t, giving("/a", "l", 1)), b, x, q("/a", "q", "count", 1000)}, p(23, 1, 23, 2, 23, 4, 23, 5)},
		{"all kinds below what is there", []api.Entry{bindingEntry(t, bound("/a/b", "b", "ann", 3)), limitEntry(t, giving("/a/b", "l", 1)), a, o("/a/b", "x", 1), q("/a/b", "q", "count", 1000)}, p(23, 1, 23, 2, 23, 4, 23, 5)},
		{"a namespace that is none is not there", []api.Entry{under(t, api.KindNode, "/a", "", "x"), ab, x}, p(22, 1, 23, 2, 23, 3)},
		{"nor is one that is out of order", []api.Entry{b, a, x}, p(21, 2, 23, 3)},
		{"one whose own isn't there is", []api.Entry{ab, nodeEntry(t, "/a/b/c"), o("/a/b", "x", 1)}, p(23, 1)},
		{"what begins alike is another", []api.Entry{a, nodeEntry(t, "/ab/c")}, p(23, 2)},

		// Rule 24.
		{"16 quotas", quotas[:16], nil},
		{"18 quotas", quotas, p(24, 17, 24, 18)},
		{"18 limit ranges", limits, p(24, 17, 24, 18)},
		{"18 bindings", bindings, p(24, 17, 24, 18)},
		{"18 objects, and namespaces", objects, nil},
		{"16 of each", slices.Concat(bindings[:16], limits[:16], quotas[:16]), nil},
		{"at another path they are others", append(slices.Concat(bindings[:16], []api.Entry{bindingEntry(t, bound("/a", "a", "ann", 0))}), a), nil},
		{"what breaks 22 isn't one of these", slices.Concat([]api.Entry{under(t, api.KindQuota, "/", "a", "")}, quotas[:17]), p(22, 1, 24, 18)},
		{"what breaks 21 isn't one of these", slices.Concat(quotas[1:2], quotas[:1], quotas[2:17]), p(21, 2)},
		{"what breaks 23 is", several(17, func(name string) api.Entry { return q("/a", name, "count", 0) }), append(nth(23, 17), p(24, 17)...)},
		{"one that breaks 24 is counted too", quotas[:17], p(24, 17)},

		// Rule 25.
		{"just the most", []api.Entry{o("/", "x", most-5), o("/", "y", 5)}, nil},
		{"one more", []api.Entry{o("/", "x", most-5), o("/", "y", 6)}, p(25, 2)},
		{"what was refused isn't charged", []api.Entry{o("/", "x", most-5), o("/", "y", 6), o("/", "z", 5)}, p(25, 2)},
		{"what was charged is", []api.Entry{o("/", "x", most-5), o("/", "y", 5), o("/", "z", 1)}, p(25, 3)},
		{"one by itself", []api.Entry{objectEntry(t, api.Object{Path: "/", Name: "x", Parts: []api.Part{{Name: "a", Requests: []api.Amount{{Name: "cpu", Value: most}}}, {Name: "b", Requests: []api.Amount{{Name: "cpu", Value: 1}}}}})}, p(25, 1)},
		{"of two namespaces, at the root", []api.Entry{a, b, o("/a", "x", most), o("/b", "x", 1)}, p(25, 4)},
		{"what breaks 23 is charged", []api.Entry{o("/a", "x", most), o("/b", "x", 1)}, p(23, 1, 23, 2, 25, 2)},
		{"what breaks 21 isn't", []api.Entry{o("/", "y", 1), o("/", "x", most), o("/", "z", most-1)}, p(21, 2)},
		{"what breaks 22 isn't", []api.Entry{under(t, api.KindObject, "/", "w", value(o("/", "x", most))), o("/", "x", 1)}, p(22, 1)},

		// Rule 26.
		{"just what is used", []api.Entry{a, x, q("/", "q", "requests.cpu", 5)}, nil},
		{"below what is used", []api.Entry{a, x, q("/", "q", "requests.cpu", 4)}, p(26, 3)},
		{"the second amount", []api.Entry{a, x, scoped("/", "q", api.Scope{}, api.Amount{Name: "count", Value: 1000}, api.Amount{Name: "requests.cpu", Value: 4})}, p(26, 3)},
		{"both amounts, told once", []api.Entry{a, x, scoped("/", "q", api.Scope{}, api.Amount{Name: "count", Value: 999}, api.Amount{Name: "requests.cpu", Value: 4})}, p(26, 3)},
		{"another scope", []api.Entry{a, x, scoped("/", "q", api.Scope{Kind: api.ScopeBest}, api.Amount{Name: "count"}), scoped("/", "r", api.Scope{Kind: api.ScopeNotBest}, api.Amount{Name: "count"})}, p(26, 4)},
		{"another path", []api.Entry{a, b, x, q("/b", "q", "count", 0)}, nil},
		{"below the object", []api.Entry{a, ab, x, q("/a/b", "q", "count", 0)}, nil},
		{"what could not be charged isn't used", []api.Entry{o("/", "x", most), o("/", "y", 1), q("/", "q", "count", 1000)}, p(25, 2)},
		{"of quotas at none, and of what breaks 23", []api.Entry{x, q("/a", "q", "count", 999)}, p(23, 1, 23, 2, 26, 2)},
		{"one ahead of the objects that use it", []api.Entry{q("/", "q", "count", 999), entry("", ""), x, a}, p(21, 2, 21, 4, 22, 2, 23, 3, 26, 1)},
		{"objects behind all others count", []api.Entry{q("/", "q", "count", 999), entry("", ""), o("/", "x", 1)}, p(21, 2, 22, 2, 26, 1)},
		{"one that breaks 24", slices.Concat([]api.Entry{o("/", "x", 1)}, quotas[:17]), append(p(24, 18), nth(26, 18)[1:]...)},
		{"one that breaks 21", []api.Entry{o("/", "x", 1), q("/", "r", "count", 1000), q("/", "q", "count", 0)}, p(21, 3)},
	} {
		same(t, c.what, judged(t, c.l), c.want)
		same(t, c.what+", on paper", recordsOnPaper(c.l), c.want)
		if !slices.IsSortedFunc(c.l, byKey) || len(c.l) > 0 && c.l[0].Key == "" || len(slices.CompactFunc(slices.Clone(c.l), sameKey)) < len(c.l) {
			continue
		}
		// A store holds these just as well: it is a server's just if there is no problem.
		d := laid(t, 256, 8, 5, c.l...)
		same(t, c.what+", by Check", check(t, d), c.want)
		opens(t, d, len(c.want) == 0)
	}
}

// nth: a rule at the places 1 to n.
func nth(rule, n int) []api.Problem {
	var l []api.Problem
	for i := range n {
		l = append(l, api.Problem{Rule: rule, Block: i + 1})
	}
	return l
}

// However many problems there are, the first 64 are told, by rule ahead of place.
func TestManyRecords(t *testing.T) {
	var l []api.Entry
	for i := range 200 {
		l = append(l, entry(fmt.Sprintf("x%03d", 199-i), ""))
	}
	var want []api.Problem
	for place := 2; place <= 65; place++ {
		want = append(want, api.Problem{Rule: 21, Block: place})
	}
	same(t, "200 the wrong way round", judged(t, l), want)
	slices.Reverse(l)
	same(t, "200 that are none", judged(t, l), nth(22, 64))
	same(t, "200 that are none, in a store", check(t, laid(t, 128, 8, 5, l...)), nth(22, 64))
}

// A list is neither changed nor kept, its spare room neither; what is answered is new each time.
func TestNothingShared(t *testing.T) {
	room := make([]api.Entry, 0, 9)
	room = append(room, nodeEntry(t, "/b"), nodeEntry(t, "/a"), entry("zz", "v"))
	spare := room[:9]
	spare[3] = entry("spare", "room")
	was := slices.Clone(spare)
	first := fsck.Records(room, 9)
	if !slices.Equal(spare, was) {
		t.Errorf("handed in %v, then %v", was, spare)
	}
	want := p(21, 2, 22, 3)
	same(t, "records", first, want)
	d := made{pages: map[int]api.Node{12: leaf(entry("k", "v"))}}.lay(t)
	s := super(12, 2)
	put(t, d, s)
	logged(t, d, s, 2, []string{"x"})
	ask := func() [][]api.Problem {
		one := fsck.Records(room, 9)
		two, errno := fsck.Check(d, 9)
		three, _, errno2 := fsck.Tree(d, s, 9)
		_, four, errno3 := fsck.Log(d, s)
		if errno != api.OK || errno2 != api.OK || errno3 != api.OK {
			t.Fatal(errno, errno2, errno3)
		}
		return [][]api.Problem{one, two, three, four}
	}
	wants := [][]api.Problem{want, p(8, 0, 11, 1), p(8, 0), p(11, 1)}
	for range 3 {
		for i, l := range ask() {
			same(t, fmt.Sprint("answer ", i), l, wants[i])
			l = append(l, p(77, 77)...)
			for j := range l[:cap(l)] {
				l[:cap(l)][j] = api.Problem{Rule: 99}
			}
		}
	}
	for i := range spare {
		spare[i] = entry("other", "")
	}
	same(t, "records", first, want)
}

// The store below asks nothing of what a key says; so what it was told is judged, whoever told it.
func TestStoreAlone(t *testing.T) {
	d := device(t, 64)
	if errno := store.Format(d, 8); errno != api.OK {
		t.Fatal(errno)
	}
	s, errno := store.Open(d)
	if errno != api.OK {
		t.Fatal(errno)
	}
	do := func(c api.Change, want ...api.Problem) {
		t.Helper()
		if errno := s.Apply([]api.Change{c}); errno != api.OK {
			t.Fatal(errno)
		}
		if errno := s.Sync(); errno != api.OK {
			t.Fatal(errno)
		}
		same(t, "behind a change", check(t, d), want)
		if errno := s.Checkpoint(); errno != api.OK {
			t.Fatal(errno)
		}
		same(t, "behind a checkpoint", check(t, d), want)
	}
	do(set(entry("x", text(600))), p(22, 1)...)
	do(set(nodeEntry(t, "/a")), p(22, 2)...)
	do(gone(entry("x", "")))
	do(set(nodeEntry(t, "/b/c")), p(23, 2)...)
	do(gone(nodeEntry(t, "/b/c")))
}
