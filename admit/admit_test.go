package admit_test

import (
	"fmt"
	"slices"
	"strings"
	"testing"

	"bursar/admit"
	"bursar/api"
	"bursar/object"
)

const (
	most = 1<<63 - 1
	off  = -1 // a number of a rule that isn't set
)

var none = api.Detail{}

// amounts of "cpu 1 mem 2".
func amounts(text string) []api.Amount {
	var l []api.Amount
	words := strings.Fields(text)
	for i := 0; i < len(words); i += 2 {
		a := api.Amount{Name: words[i]}
		fmt.Sscan(words[i+1], &a.Value)
		l = append(l, a)
	}
	return l
}

func part(name, requests, limits string) api.Part {
	return api.Part{Name: name, Requests: amounts(requests), Limits: amounts(limits)}
}

func parts(path, name string, l ...api.Part) api.Object {
	return api.Object{Path: path, Name: name, Parts: l}
}

// asks is an object of one part "main" with these requests.
func asks(path, name, requests string) api.Object {
	return parts(path, name, part("main", requests, ""))
}

// hard is a quota in the scope of all.
func hard(path, name, amount string) api.Quota {
	return api.Quota{Path: path, Name: name, Hard: amounts(amount)}
}

func scoped(q api.Quota, kind, arg int) api.Quota {
	q.Scope = api.Scope{Kind: kind, Arg: arg}
	return q
}

// limit is a limit range with a rule for cpu.
func limit(path, name string, least, most, def, request, ratio int64) api.LimitRange {
	return api.LimitRange{Path: path, Name: name, Rules: []api.Rule{{Resource: "cpu", Min: least, Max: most, Default: def, Request: request, Ratio: ratio}}}
}

func versioned(o api.Object, version int64) api.Object {
	o.Version = version
	return o
}

// ok fails unless a call answered OK.
func (b *both) ok(errno api.Errno) {
	b.t.Helper()
	b.wants(errno, api.OK)
}

func (b *both) wants(errno, want api.Errno) {
	b.t.Helper()
	if errno != want {
		b.t.Errorf("%d, want %d", errno, want)
	}
}

func (b *both) creates(o api.Object, version int64, want api.Detail, wantErrno api.Errno) api.Object {
	b.t.Helper()
	told, d, errno := b.create(o, version)
	if d != want || errno != wantErrno {
		b.t.Errorf("Create(%+v, %d) = %+v, %d, want %+v, %d", o, version, d, errno, want, wantErrno)
	}
	return told
}

func (b *both) updates(o api.Object, version, must int64, want api.Detail, wantErrno api.Errno) api.Object {
	b.t.Helper()
	told, d, errno := b.update(o, version, must)
	if d != want || errno != wantErrno {
		b.t.Errorf("Update(%+v, %d, %d) = %+v, %d, want %+v, %d", o, version, must, d, errno, want, wantErrno)
	}
	return told
}

func (b *both) sets(q api.Quota, want api.Detail, wantErrno api.Errno) {
	b.t.Helper()
	if d, errno := b.setQuota(q); d != want || errno != wantErrno {
		b.t.Errorf("SetQuota(%+v) = %+v, %d, want %+v, %d", q, d, errno, want, wantErrno)
	}
}

func (b *both) removes(path, name string, must int64, want api.Errno) api.Object {
	b.t.Helper()
	told, errno := b.remove(path, name, must)
	b.wants(errno, want)
	return told
}

// lists holds List against texts "/a x".
func (b *both) lists(path string, deep bool, terms []api.Term, from string, most int, want string, wantMore bool, wantErrno api.Errno) {
	b.t.Helper()
	l, more, errno := b.list(path, deep, terms, from, most)
	var all []string
	for _, o := range l {
		all = append(all, o.Path+" "+o.Name)
	}
	if got := strings.Join(all, ", "); got != want || more != wantMore || errno != wantErrno {
		b.t.Errorf("List(%q, %v, %v, %q, %d) = %q, %v, %d, want %q, %v, %d", path, deep, terms, from, most, got, more, errno, want, wantMore, wantErrno)
	}
}

func (b *both) hasStatus(path, name string, want ...api.Line) {
	b.t.Helper()
	if l, errno := b.status(path, name); errno != api.OK || !slices.Equal(l, want) {
		b.t.Errorf("Status(%q, %q) = %+v, %d, want %+v", path, name, l, errno, want)
	}
}

// withNodes: a world with these namespaces.
func withNodes(t *testing.T, paths ...string) *both {
	t.Helper()
	b := newBoth(t)
	for _, path := range paths {
		b.ok(b.addNode(path))
	}
	return b
}

func TestExamples(t *testing.T) {
	b := newBoth(t)
	full := tells("/a", "q", "", "requests.cpu")
	// 1
	b.ok(b.addNode("/a"))
	b.sets(hard("/a", "q", "requests.cpu 1000"), none, api.OK)
	if x := b.creates(asks("/a", "x", "cpu 600"), 1, none, api.OK); !same(x, versioned(asks("/a", "x", "cpu 600"), 1)) {
		t.Errorf("x is %+v", x)
	}
	b.creates(asks("/a", "y", "cpu 401"), 2, full, api.ErrQuota)
	b.creates(asks("/a", "y", "cpu 400"), 2, none, api.OK)
	b.creates(asks("/a", "z", ""), 3, tells("/a", "q", "main", "requests.cpu"), api.ErrUnset)
	b.hasStatus("/a", "q", api.Line{Resource: "requests.cpu", Hard: 1000, Used: 1000})
	// 2
	b.updates(asks("/a", "x", "cpu 500"), 3, 9, none, api.ErrConflict)
	b.updates(asks("/a", "x", "cpu 500"), 3, 1, none, api.OK)
	b.updates(asks("/a", "x", "cpu 500"), 3, 0, none, api.OK)
	if x, errno := b.get("/a", "x"); errno != api.OK || !same(x, versioned(asks("/a", "x", "cpu 500"), 3)) {
		t.Errorf("Get = %+v, %d", x, errno)
	}
	b.sets(hard("/a", "q", "requests.cpu 899"), full, api.ErrBelow)
	b.sets(hard("/a", "q", "requests.cpu 900"), none, api.OK)
	b.sets(hard("/", "r", "count 1000"), tells("/", "r", "", "count"), api.ErrBelow)
	// 3
	b.wants(b.dropNode("/a"), api.ErrFull)
	b.wants(b.dropNode("/"), api.ErrRoot)
	b.removes("/a", "y", 3, api.ErrConflict)
	if y := b.removes("/a", "y", 2, api.OK); !same(y, versioned(asks("/a", "y", "cpu 400"), 2)) {
		t.Errorf("y was %+v", y)
	}
	b.removes("/a", "y", 0, api.ErrMissing)
	// 4
	b.ok(b.setLimit(limit("/", "d", off, off, 2000, off, off)))
	b.creates(asks("/a", "z", ""), 4, full, api.ErrQuota)
	b.ok(b.dropQuota("/a", "q"))
	z := versioned(parts("/a", "z", part("main", "cpu 2000", "cpu 2000")), 4)
	if told := b.creates(asks("/a", "z", ""), 4, none, api.OK); !same(told, z) {
		t.Errorf("z is %+v", told)
	}
	b.creates(asks("/b", "z", ""), 5, none, api.ErrNoNode)
	b.creates(asks("/a", "z", ""), 5, none, api.ErrExists)
	b.creates(asks("/a", "Z", ""), 5, none, api.ErrObject)
	b.creates(asks("/a", "u", ""), -1, none, api.ErrArg)
	// 5
	b.lists("/", true, nil, "", 1, "/a x", true, api.OK)
	b.lists("/", true, nil, "/a x", 9, "/a z", false, api.OK)
	b.lists("/a", false, nil, "x", 9, "/a z", false, api.OK)
	b.lists("/", false, nil, "", 9, "", false, api.OK)
	b.lists("/", true, nil, "x", 9, "", false, api.ErrArg)
	b.lists("/b", true, nil, "", 9, "", false, api.ErrNoNode)
	b.lists("/", true, nil, "", 0, "", false, api.ErrArg)
	b.lists("/", true, nil, "", 101, "", false, api.ErrArg)
	// 6
	b.creates(parts("/a", "v", part("main", "cpu 9223372036854775807", "cpu 9223372036854775807")), 6, none, api.ErrOver)
	w, errno := admit.Of(b.world.Dump())
	if w == nil || errno != api.OK || !sameDump(w.Dump(), b.world.Dump()) {
		t.Errorf("Of(Dump()): %d", errno)
	}
	ofIs(t, api.Dump{Nodes: []string{"/a"}, Objects: []api.Object{asks("/b", "x", "")}}, api.ErrNoNode)
}

// ofIs holds Of against what is wanted, and against the paper.
func ofIs(t *testing.T, d api.Dump, want api.Errno) {
	t.Helper()
	w, errno := admit.Of(d)
	p, onPaper := paperOf(d)
	if errno != want || onPaper != want || (w == nil) != (errno != api.OK) {
		t.Errorf("Of(%+v): %d, on paper %d, want %d", d, errno, onPaper, want)
	}
	if w != nil && p != nil && !sameDump(w.Dump(), p.dump()) {
		t.Errorf("Of(%+v) is %+v, want %+v", d, w.Dump(), p.dump())
	}
}

func TestNewIsTheRootAlone(t *testing.T) {
	d := admit.New().Dump()
	if !sameDump(d, api.Dump{Nodes: []string{"/"}}) {
		t.Errorf("Dump = %+v", d)
	}
	one, other := admit.New(), admit.New()
	one.AddNode("/a")
	one.Create(asks("/", "x", "cpu 1"), 1)
	if d := other.Dump(); !sameDump(d, api.Dump{Nodes: []string{"/"}}) {
		t.Errorf("another world's Dump = %+v", d)
	}
}

func TestNodes(t *testing.T) {
	b := withNodes(t, "/b", "/a", "/a/x", "/a-b")
	if d := b.world.Dump(); !slices.Equal(d.Nodes, []string{"/", "/a", "/a/x", "/a-b", "/b"}) {
		t.Errorf("Nodes = %v", d.Nodes)
	}
	for path, want := range map[string]api.Errno{"/": api.ErrNode, "/a": api.ErrNode, "/c/d": api.ErrNoNode, "a": api.ErrPath, "": api.ErrPath, "/A": api.ErrPath, "/a/": api.ErrPath, strings.Repeat("/a", 9): api.ErrPath} {
		b.wants(b.addNode(path), want)
	}
	b.creates(asks("/a", "o", ""), 1, none, api.OK)
	b.creates(asks("/a/x", "o", ""), 1, none, api.OK)
	for path, want := range map[string]api.Errno{"/": api.ErrRoot, "/c": api.ErrNoNode, "c": api.ErrPath, "/a": api.ErrChildren, "/a/x": api.ErrFull} {
		b.wants(b.dropNode(path), want)
	}
	b.removes("/a/x", "o", 0, api.OK)
	b.ok(b.dropNode("/a/x"))
	b.wants(b.dropNode("/a"), api.ErrFull)
	b.removes("/a", "o", 0, api.OK)
	b.ok(b.dropNode("/a"))
	b.ok(b.dropNode("/a-b"))
	b.wants(b.addNode("/a/x"), api.ErrNoNode)
}

// The deepest line there may be: what stands at each of its paths is looked at, an object is charged at all of them.
func TestDeepestLine(t *testing.T) {
	path := ""
	b := newBoth(t)
	for range 8 {
		path += "/n"
		b.ok(b.addNode(path))
	}
	b.wants(b.addNode(path+"/n"), api.ErrPath)
	o := asks(path, "x", "cpu 10")
	for _, top := range lineOf(path) {
		b.sets(hard(top, "q", "requests.cpu 9"), none, api.OK)
		b.creates(o, 1, tells(top, "q", "", "requests.cpu"), api.ErrQuota)
		b.ok(b.dropQuota(top, "q"))
		b.ok(b.setLimit(limit(top, "l", 11, off, off, off, off)))
		b.creates(o, 1, tells(top, "l", "main", "cpu"), api.ErrMin)
		b.ok(b.dropLimit(top, "l"))
	}
	b.creates(o, 1, none, api.OK)
	if n := len(b.world.Dump().Uses); n != 9*4*2 {
		t.Errorf("%d uses", n)
	}
	b.wants(b.dropNode(path), api.ErrFull)
}

// What stands at a namespace goes with it, and doesn't come back with another of its path.
func TestDroppedWithTheNode(t *testing.T) {
	b := withNodes(t, "/a", "/ab", "/b")
	for _, path := range []string{"/a", "/ab", "/"} {
		b.sets(hard(path, "q", "requests.cpu 1"), none, api.OK)
		b.sets(hard(path, "r", "count 9000"), none, api.OK)
		b.ok(b.setLimit(limit(path, "l", off, off, off, off, 2000)))
		b.ok(b.setLimit(limit(path, "m", off, off, 7, off, off)))
	}
	b.ok(b.dropNode("/a"))
	if d := b.world.Dump(); len(d.Quotas) != 4 || len(d.Limits) != 4 {
		t.Errorf("Dump = %+v", d)
	}
	b.wants(b.dropQuota("/a", "q"), api.ErrMissing)
	b.wants(b.dropLimit("/a", "l"), api.ErrMissing)
	_, errno := b.status("/a", "q")
	b.wants(errno, api.ErrMissing)
	b.ok(b.addNode("/a"))
	b.wants(b.dropQuota("/a", "r"), api.ErrMissing)
	b.ok(b.dropQuota("/", "q"))
	b.ok(b.dropLimit("/", "m"))
	b.creates(asks("/a", "x", "cpu 5"), 1, none, api.OK)
	b.creates(asks("/ab", "x", "cpu 5"), 1, tells("/ab", "q", "", "requests.cpu"), api.ErrQuota)
}

// At a path stand 16 of a kind; one with a name that is there takes its place still.
func TestMany(t *testing.T) {
	b := withNodes(t, "/a", "/b")
	for i := range 16 {
		b.sets(hard("/a", fmt.Sprintf("q%02d", i), "count 5000"), none, api.OK)
		b.ok(b.setLimit(limit("/a", fmt.Sprintf("l%02d", i), off, off, off, off, off)))
	}
	b.sets(hard("/a", "p", "count 5000"), none, api.ErrMany)
	b.sets(hard("/a", "q16", "count 5000"), none, api.ErrMany)
	b.wants(b.setLimit(limit("/a", "l16", off, off, off, off, off)), api.ErrMany)
	b.wants(b.setLimit(limit("/a", "q00", off, off, off, off, off)), api.ErrMany)
	b.sets(hard("/a", "q07", "count 4000"), none, api.OK)
	b.sets(hard("/a", "q00", "count 3000"), none, api.OK)
	b.sets(hard("/a", "q15", "count 3000"), none, api.OK)
	b.ok(b.setLimit(limit("/a", "l15", 5, off, off, off, off)))
	b.sets(hard("/b", "p", "count 5000"), none, api.OK)
	b.ok(b.setLimit(limit("/b", "l", off, off, off, off, off)))
	b.ok(b.dropQuota("/a", "q03"))
	b.sets(hard("/a", "p", "count 5000"), none, api.OK)
	b.sets(hard("/a", "q03", "count 5000"), none, api.ErrMany)
	b.ok(b.dropLimit("/a", "l00"))
	b.ok(b.setLimit(limit("/a", "l16", off, off, off, off, off)))
	b.wants(b.setLimit(limit("/a", "l00", off, off, off, off, off)), api.ErrMany)
	for i := range 40 { // of objects there may be more, if the quota lets them
		want, wantErrno := none, api.OK
		if i >= 5 {
			want, wantErrno = tells("/b", "p", "", "count"), api.ErrQuota
		}
		b.creates(asks("/b", fmt.Sprint("x", i), ""), 1, want, wantErrno)
	}
	b.ok(b.dropQuota("/b", "p"))
	for i := 5; i < 40; i++ {
		b.creates(asks("/b", fmt.Sprint("x", i), ""), 1, none, api.OK)
	}
}

func TestSetQuotaInOrder(t *testing.T) {
	b := withNodes(t, "/a")
	b.creates(asks("/a", "x", "cpu 500"), 1, none, api.OK)
	for _, q := range []api.Quota{{}, hard("/a", "Q", "count 1"), hard("a", "q", "count 1"), hard("/a", "q", ""), hard("/a", "q", "cpu 1"), hard("/a", "q", "count -1"), hard("/b", "q", "requests.cpu 1 count 1"), scoped(hard("/a", "q", "count 1"), 6, 0), scoped(hard("/b", "q", "count 1"), 5, 10)} {
		b.sets(q, none, api.ErrObject)
	}
	b.sets(hard("/b", "q", "count 0"), none, api.ErrNoNode)
	b.sets(hard("/a/b", "q", "count 0"), none, api.ErrNoNode)
	b.sets(hard("/a", "q", "count 999 requests.cpu 499"), tells("/a", "q", "", "count"), api.ErrBelow)
	b.sets(hard("/a", "q", "count 1000 requests.cpu 499"), tells("/a", "q", "", "requests.cpu"), api.ErrBelow)
	b.sets(hard("/a", "q", "count 1000 limits.cpu 0 requests.cpu 500"), none, api.OK)
	// Another scope in the place of the one that is there: what it says itself is judged.
	b.sets(scoped(hard("/a", "q", "count 0"), api.ScopeBest, 0), none, api.OK)
	b.sets(scoped(hard("/a", "q", "count 0"), api.ScopeNotBest, 0), tells("/a", "q", "", "count"), api.ErrBelow)
	b.sets(scoped(hard("/a", "q", "count 0"), api.ScopePriority, 1), none, api.OK)
	b.sets(scoped(hard("/", "q", "requests.cpu 499"), api.ScopePriority, 0), tells("/", "q", "", "requests.cpu"), api.ErrBelow)
	b.hasStatus("/a", "q", api.Line{Resource: "count"})
	// 16 stand there: ErrMany goes ahead of ErrBelow.
	for i := range 15 {
		b.sets(hard("/a", fmt.Sprintf("r%02d", i), "count 1000"), none, api.OK)
	}
	b.sets(hard("/a", "s", "count 0"), none, api.ErrMany)
	b.sets(hard("/a", "r00", "count 0"), tells("/a", "r00", "", "count"), api.ErrBelow)
}

func TestSetLimitInOrder(t *testing.T) {
	b := withNodes(t, "/a")
	for _, l := range []api.LimitRange{{}, limit("/a", "L", 1, 1, 1, 1, 1), limit("a", "l", 1, 1, 1, 1, 1), limit("/b", "l", -2, 1, 1, 1, 1), limit("/b", "l", 1, 1, 1, 1, -2), {Path: "/a", Name: "l"}} {
		b.wants(b.setLimit(l), api.ErrObject)
	}
	b.wants(b.setLimit(limit("/b", "l", 1, 1, 1, 1, 1)), api.ErrNoNode)
	b.creates(asks("/a", "x", "cpu 500"), 1, none, api.OK)
	// What lies there already isn't judged anew, but what comes is, and what changes.
	b.ok(b.setLimit(limit("/a", "l", 501, off, off, off, off)))
	b.creates(asks("/a", "y", "cpu 500"), 1, tells("/a", "l", "main", "cpu"), api.ErrMin)
	b.updates(asks("/a", "x", "cpu 500"), 2, 0, tells("/a", "l", "main", "cpu"), api.ErrMin)
	b.ok(b.setLimit(limit("/a", "l", 500, off, off, off, off)))
	b.updates(asks("/a", "x", "cpu 500"), 2, 0, none, api.OK)
}

// Quotas and limit ranges of a path are looked at by name, in whatever order they came.
func TestByName(t *testing.T) {
	for _, order := range [][]string{{"a", "b", "c"}, {"c", "b", "a"}, {"b", "c", "a"}} {
		b := withNodes(t, "/a")
		for i, name := range order {
			b.sets(hard("/a", name, "requests.cpu 100"), none, api.OK)
			b.ok(b.setLimit(limit("/a", name, 10, off, off, off, off)))
			b.ok(b.setLimit(limit("/", name, off, off, off, int64(100+i), off)))
		}
		b.creates(asks("/a", "x", "cpu 101"), 1, tells("/a", "a", "", "requests.cpu"), api.ErrQuota)
		b.creates(asks("/a", "x", "cpu 9"), 1, tells("/a", "a", "main", "cpu"), api.ErrMin)
		at := slices.Index(order, "a")
		if o, _, errno := b.create(asks("/", "x", ""), 1); errno != api.OK || o.Parts[0].Requests[0].Value != int64(100+at) {
			t.Errorf("by the first name %+v, %d", o, errno)
		}
	}
}

func TestDropQuotaAndLimit(t *testing.T) {
	b := withNodes(t, "/a", "/b")
	b.sets(hard("/a", "q", "count 0"), none, api.OK)
	b.ok(b.setLimit(limit("/a", "l", 100, off, off, off, off)))
	for _, place := range [][2]string{{"/a", "x"}, {"/b", "q"}, {"/b", "l"}, {"/", "q"}, {"/", "l"}, {"", ""}, {"/a", ""}, {"a", "q"}, {"/c", "q"}, {"/a/", "q"}, {"/a q", ""}, {"\xff", "\x00"}} {
		b.wants(b.dropQuota(place[0], place[1]), api.ErrMissing)
		b.wants(b.dropLimit(place[0], place[1]), api.ErrMissing)
		_, errno := b.status(place[0], place[1])
		b.wants(errno, api.ErrMissing)
		_, errno = b.get(place[0], place[1])
		b.wants(errno, api.ErrMissing)
		b.removes(place[0], place[1], 0, api.ErrMissing)
	}
	b.wants(b.dropQuota("/a", "l"), api.ErrMissing) // that is the limit range's name
	b.wants(b.dropLimit("/a", "q"), api.ErrMissing)
	b.creates(asks("/a", "x", "cpu 1"), 1, tells("/a", "l", "main", "cpu"), api.ErrMin)
	b.ok(b.dropLimit("/a", "l"))
	b.creates(asks("/a", "x", "cpu 1"), 1, tells("/a", "q", "", "count"), api.ErrQuota)
	b.ok(b.dropQuota("/a", "q"))
	b.creates(asks("/a", "x", "cpu 1"), 1, none, api.OK)
}

// Versions and the ones that must be there: 0 to 1<<60, looked at ahead of all else.
func TestStamps(t *testing.T) {
	b := withNodes(t, "/a")
	for _, wrong := range []int64{-1, -1 << 63, 1<<60 + 1, most} {
		b.creates(api.Object{}, wrong, none, api.ErrArg)
		b.creates(asks("/a", "x", ""), wrong, none, api.ErrArg)
		b.updates(api.Object{}, wrong, 0, none, api.ErrArg)
		b.updates(api.Object{}, 0, wrong, none, api.ErrArg)
		b.removes("", "", wrong, api.ErrArg)
		if _, d, errno := b.world.Try(asks("/a", "x", ""), false, 1, wrong); d != none || errno != api.OK {
			t.Errorf("Try to create with must %d: %+v, %d", wrong, d, errno)
		}
	}
	for i, version := range []int64{0, 1, 1<<60 - 1, 1 << 60} {
		name := fmt.Sprint("x", i)
		if o := b.creates(versioned(asks("/a", name, ""), 77), version, none, api.OK); o.Version != version {
			t.Errorf("Version %d, want %d", o.Version, version)
		}
		for _, must := range []int64{1, 2, 1 << 60} {
			want := api.ErrConflict
			if must == version {
				want = api.OK
			}
			b.updates(asks("/a", name, ""), version, must, none, want)
		}
		b.updates(asks("/a", name, ""), version, 0, none, api.OK)
	}
	b.removes("/a", "x3", 1<<60-1, api.ErrConflict)
	b.removes("/a", "x3", 1<<60, api.OK)
	// The version 0 can't be asked for: 0 is any.
	b.removes("/a", "x0", 1, api.ErrConflict)
	b.removes("/a", "x0", 0, api.OK)
	b.removes("/a", "x1", 0, api.OK)
	// The object's own Version must be one, though it isn't kept.
	b.creates(versioned(asks("/a", "y", ""), -1), 1, none, api.ErrObject)
	b.creates(versioned(asks("/a", "y", ""), 1<<60+1), 1, none, api.ErrObject)
	b.creates(versioned(asks("/a", "y", ""), 1<<60), 1, none, api.OK)
}

// What is handed in comes into its one form first: sums of amounts, lists in order.
func TestNormalFirst(t *testing.T) {
	b := withNodes(t, "/a")
	b.sets(hard("/a", "q", "requests.cpu 10"), none, api.OK)
	o := parts("/a", "x", part("b", "mem 3 cpu 2 cpu 3", ""), part("a", "cpu 5", ""))
	o.Labels = []api.Label{{Key: "z"}, {Key: "a", Value: "1"}}
	want := versioned(parts("/a", "x", part("a", "cpu 5", ""), part("b", "cpu 5 mem 3", "")), 7)
	want.Labels = []api.Label{{Key: "a", Value: "1"}, {Key: "z"}}
	if told := b.creates(o, 7, none, api.OK); !same(told, want) {
		t.Errorf("stored: %+v", told)
	}
	o.Parts[0].Requests = append(o.Parts[0].Requests, api.Amount{Name: "cpu", Value: 1})
	b.updates(o, 8, 0, tells("/a", "q", "", "requests.cpu"), api.ErrQuota)
	o.Labels = append(o.Labels, api.Label{Key: "z"})
	b.updates(o, 8, 0, none, api.ErrObject)
}

// bulky is an object of many amounts, in whose parts one request may come still.
func bulky(path, name string, version int64) api.Object {
	o := api.Object{Path: path, Name: name, Version: version}
	for i := range 8 {
		p := api.Part{Name: fmt.Sprint("p", i)}
		for k := range 15 {
			p.Requests = append(p.Requests, api.Amount{Name: fmt.Sprintf("r%02d%s", k, strings.Repeat("x", 44))})
		}
		o.Parts = append(o.Parts, p)
	}
	for i := range 16 {
		o.Labels = append(o.Labels, api.Label{Key: fmt.Sprintf("k%02d", i)})
	}
	return o
}

// stretched brings an object's bytes to just so many: by limits of what is requested, then byte by byte in its labels.
func stretched(t *testing.T, o api.Object, bytes int) api.Object {
	t.Helper()
	length := func() int {
		text, _ := object.EncodeObject(o)
		return len(text)
	}
	for i := 0; length() < bytes-100; i++ {
		p := &o.Parts[i%8]
		p.Limits = append(p.Limits, p.Requests[len(p.Limits)])
	}
	for length() < bytes {
		at := slices.IndexFunc(o.Labels, func(l api.Label) bool { return len(l.Value) < 30 })
		o.Labels[at].Value += "v"
	}
	if length() != bytes {
		t.Fatalf("%d bytes, want %d", length(), bytes)
	}
	return o
}

// With its Version the object's bytes may be too many: with the one that it came with in the first link, with that of the change in the fourth.
func TestTooLong(t *testing.T) {
	b := withNodes(t, "/a")
	just := stretched(t, bulky("/a", "x", 0), api.MaxValue)
	b.creates(just, 128, none, api.ErrLong)
	b.creates(just, 1<<60, none, api.ErrLong)
	b.creates(just, 127, none, api.OK)
	b.updates(just, 128, 0, none, api.ErrLong)
	b.updates(just, 0, 127, none, api.OK)
	b.creates(versioned(just, 128), 1, none, api.ErrLong)
	b.updates(versioned(just, 128), 1, 0, none, api.ErrLong)
	b.creates(stretched(t, bulky("/a", "y", 1<<60), api.MaxValue), 5, none, api.OK)
	far := stretched(t, bulky("/b", "x", 0), api.MaxValue)
	b.creates(versioned(far, 128), 1, none, api.ErrLong)
	b.creates(far, 128, none, api.ErrNoNode)
	b.updates(far, 128, 0, none, api.ErrMissing)
	past := stretched(t, bulky("/b", "x", 0), api.MaxValue)
	past.Labels[15].Value += "v"
	b.creates(past, 1, none, api.ErrLong)
}

// What limits.Admit gives is judged with the Version that was handed in, and only then with that of the change.
func TestTooLongWithDefaults(t *testing.T) {
	b := withNodes(t, "/a")
	l := limit("/a", "l", off, off, off, 7, off)
	l.Rules[0].Resource = "z"
	b.ok(b.setLimit(l))
	const given = 8 * 3 // bytes that z 7 has in eight parts
	just := stretched(t, bulky("/a", "x", 0), api.MaxValue-given)
	b.creates(just, 128, none, api.ErrLong)
	o := b.creates(just, 127, none, api.OK)
	if text, errno := object.EncodeObject(o); len(text) != api.MaxValue || errno != api.OK {
		t.Errorf("stored: %d bytes, %d", len(text), errno)
	}
	b.creates(stretched(t, bulky("/a", "y", 128), api.MaxValue-given), 1, none, api.OK)
	b.creates(stretched(t, bulky("/a", "z", 128), api.MaxValue-given+1), 1, none, api.ErrLong)
	b.creates(stretched(t, bulky("/a", "z", 1), api.MaxValue-given+1), 1, none, api.ErrLong)
	// A refusal of the third link is told, though with the version of the change it would be too long.
	b.ok(b.setLimit(limit("/a", "m", 1, off, off, off, off)))
	b.updates(just, 128, 0, tells("/a", "m", "p0", "cpu"), api.ErrMin)
	// Too many amounts are too long as well.
	b.ok(b.setLimit(limit("/a", "m", off, off, off, 1, off)))
	b.updates(just, 1, 0, none, api.ErrLong)
}

// An object that all links would refuse is told the first; one by one they are put right.
func TestLinksInOrder(t *testing.T) {
	b := withNodes(t, "/a")
	o := bulky("/a", "x", 0)
	o.Parts[0].Requests[0].Value, o.Parts[1].Requests[0].Value = most, most
	o = stretched(t, o, api.MaxValue)
	bad := copied(o)
	bad.Parts[0].Name = "P"
	b.creates(bad, -1, none, api.ErrArg)
	bad.Path = "/b"
	b.creates(bad, 128, none, api.ErrObject)
	bad.Parts[0].Name = "p0"
	b.creates(bad, 128, none, api.ErrNoNode)
	bad.Path = "/a"
	b.creates(asks("/a", "x", ""), 1, none, api.OK)
	b.ok(b.setLimit(limit("/a", "l", 1, off, off, off, off)))
	b.sets(hard("/", "q", "count 1000"), none, api.OK)
	b.creates(bad, 128, none, api.ErrExists)
	b.updates(bad, 128, 2, none, api.ErrConflict)
	b.updates(bad, 128, 1, tells("/a", "l", "p0", "cpu"), api.ErrMin)
	bad.Name = "y"
	b.updates(bad, 128, 2, none, api.ErrMissing)
	b.creates(bad, 128, tells("/a", "l", "p0", "cpu"), api.ErrMin)
	b.ok(b.dropLimit("/a", "l"))
	b.creates(bad, 128, none, api.ErrLong)
	b.creates(bad, 127, none, api.ErrOver)
	bad.Parts[1].Requests[0].Value, bad.Parts[1].Limits[0].Value = 0, 0
	b.creates(bad, 127, tells("/", "q", "", "count"), api.ErrQuota)
	b.sets(hard("/", "q", "count 2000"), none, api.OK)
	name := bad.Parts[0].Requests[0].Name
	b.updates(asks("/a", "x", name+" 1"), 2, 0, none, api.OK)
	b.creates(bad, 127, none, api.ErrOver)
	b.sets(hard("/", "r", "requests."+name+" 9223372036854775807"), none, api.OK)
	b.creates(bad, 127, tells("/", "r", "", "requests."+name), api.ErrQuota)
	b.sets(hard("/", "r", "requests.cpu 9223372036854775807"), none, api.OK)
	b.creates(bad, 127, tells("/", "r", "p0", "requests.cpu"), api.ErrUnset)
	b.ok(b.dropQuota("/", "r"))
	b.creates(bad, 127, none, api.ErrOver)
	b.updates(asks("/a", "x", name+" 0"), 3, 0, none, api.OK)
	b.creates(bad, 127, none, api.OK)
}

// The second link of Update asks for the object alone: where there is no namespace there is none.
func TestWhoIsThere(t *testing.T) {
	b := withNodes(t, "/a", "/b")
	b.creates(asks("/a", "x", ""), 4, none, api.OK)
	for _, place := range [][2]string{{"/a", "y"}, {"/b", "x"}, {"/", "x"}, {"/c", "x"}, {"/a/b", "x"}} {
		b.updates(asks(place[0], place[1], ""), 5, 4, none, api.ErrMissing)
		b.removes(place[0], place[1], 4, api.ErrMissing)
	}
	b.creates(asks("/c", "x", ""), 5, none, api.ErrNoNode)
	b.creates(asks("/a", "x", ""), 5, none, api.ErrExists)
	b.creates(asks("/b", "x", ""), 5, none, api.OK)
	b.creates(asks("/", "x", ""), 5, none, api.OK)
	b.removes("/b", "x", 0, api.OK)
	b.creates(asks("/b", "x", ""), 6, none, api.OK)
}

// What limit ranges lay in counts for the scopes and for the quotas.
func TestDefaultsCount(t *testing.T) {
	b := withNodes(t, "/a")
	b.sets(scoped(hard("/a", "n", "requests.cpu 10"), api.ScopeNotBest, 0), none, api.OK)
	b.sets(scoped(hard("/a", "b", "count 0"), api.ScopeBest, 0), none, api.OK)
	b.creates(asks("/a", "x", ""), 1, tells("/a", "b", "", "count"), api.ErrQuota)
	b.ok(b.setLimit(limit("/", "l", off, off, 9, 6, off)))
	want := versioned(parts("/a", "x", part("main", "cpu 6", "cpu 9")), 1)
	if o := b.creates(asks("/a", "x", ""), 1, none, api.OK); !same(o, want) {
		t.Errorf("stored: %+v", o)
	}
	b.creates(asks("/a", "y", ""), 2, tells("/a", "n", "", "requests.cpu"), api.ErrQuota)
	b.creates(asks("/a", "y", "cpu 4"), 2, none, api.OK)
	b.hasStatus("/a", "n", api.Line{Resource: "requests.cpu", Hard: 10, Used: 10})
	b.creates(asks("/a", "z", "cpu 10"), 3, tells("", "", "main", "cpu"), api.ErrAsk)
	// The object's own namespace goes ahead of those above it.
	b.ok(b.setLimit(limit("/a", "l", off, 5, 5, off, 1000)))
	b.updates(asks("/a", "x", ""), 3, 0, tells("", "", "main", "cpu"), api.ErrAsk)
	b.updates(asks("/a", "x", "cpu 4"), 3, 0, tells("/a", "l", "main", "cpu"), api.ErrRatio)
	b.updates(parts("/a", "x", part("main", "cpu 6", "cpu 6")), 3, 0, tells("/a", "l", "main", "cpu"), api.ErrMax)
	b.updates(asks("/a", "x", "cpu 5"), 3, 0, none, api.OK)
	b.ok(b.setLimit(limit("/a", "l", off, 5, off, off, off)))
	b.ok(b.dropLimit("/", "l"))
	b.updates(asks("/a", "x", "cpu 5"), 3, 0, tells("/a", "l", "main", "cpu"), api.ErrNoCap)
}

// An Update is judged with the old one gone, in whatever scopes that lies.
func TestInThePlaceOfTheOld(t *testing.T) {
	b := withNodes(t, "/a")
	b.sets(hard("/", "all", "count 2000 requests.cpu 100"), none, api.OK)
	b.sets(scoped(hard("/a", "five", "requests.cpu 50"), api.ScopePriority, 5), none, api.OK)
	x := asks("/a", "x", "cpu 60")
	b.creates(x, 1, none, api.OK)
	b.creates(asks("/a", "y", "cpu 40"), 2, none, api.OK)
	b.updates(asks("/a", "x", "cpu 61"), 3, 0, tells("/", "all", "", "requests.cpu"), api.ErrQuota)
	x.Priority = 5
	b.updates(x, 3, 0, tells("/a", "five", "", "requests.cpu"), api.ErrQuota) // the old one had no share there
	x.Parts[0].Requests[0].Value = 50
	b.updates(x, 3, 1, none, api.OK)
	b.updates(x, 4, 1, none, api.ErrConflict)
	x.Deadline = 9
	b.updates(x, 4, 3, none, api.OK)
	b.hasStatus("/a", "five", api.Line{Resource: "requests.cpu", Hard: 50, Used: 50})
	b.updates(asks("/a", "x", ""), 5, 4, tells("/", "all", "main", "requests.cpu"), api.ErrUnset)
	b.updates(asks("/a", "x", "cpu 60"), 5, 4, none, api.OK)
	b.hasStatus("/a", "five", api.Line{Resource: "requests.cpu", Hard: 50, Used: 0})
}

// Sums at the greatest amount: a change is judged with the old share taken away.
func TestGreatestSums(t *testing.T) {
	b := withNodes(t, "/a", "/b")
	b.creates(asks("/a", "x", "cpu 9223372036854775806"), 1, none, api.OK)
	b.creates(asks("/b", "y", "cpu 2"), 2, none, api.ErrOver)
	b.creates(asks("/b", "y", "cpu 1"), 2, none, api.OK)
	b.updates(asks("/b", "y", "cpu 2"), 3, 0, none, api.ErrOver)
	b.updates(asks("/a", "x", "cpu 9223372036854775807"), 3, 0, none, api.ErrOver)
	b.updates(asks("/a", "x", "cpu 9223372036854775806"), 3, 0, none, api.OK)
	b.updates(parts("/a", "x", part("a", "cpu 9223372036854775805", ""), part("b", "cpu 2", "")), 3, 0, none, api.ErrOver)
	b.updates(parts("/a", "x", part("a", "cpu 9223372036854775807", ""), part("b", "cpu 1", "")), 3, 0, none, api.ErrOver)
	b.sets(hard("/", "q", "requests.cpu 9223372036854775806"), tells("/", "q", "", "requests.cpu"), api.ErrBelow)
	b.sets(hard("/", "q", "requests.cpu 9223372036854775807"), none, api.OK)
	b.updates(asks("/b", "y", "cpu 2"), 3, 0, tells("/", "q", "", "requests.cpu"), api.ErrQuota)
	b.removes("/b", "y", 0, api.OK)
	b.updates(asks("/a", "x", "cpu 9223372036854775807"), 3, 0, none, api.OK)
}

func TestOfInAnyOrder(t *testing.T) {
	x, y := versioned(asks("/a", "x", "cpu 5"), 3), asks("/a/b", "y", "cpu 6")
	d := api.Dump{
		Version: 77, Nodes: []string{"/a/b", "/", "/a-b", "/a"},
		Quotas:   []api.Quota{hard("/a/b", "q", "count 1000"), hard("/", "z", "count 2000"), hard("/", "a", "requests.cpu 11"), hard("/a-b", "q", "count 0")},
		Limits:   []api.LimitRange{limit("/a", "m", 100, 1, 1, 1, 1), limit("/a", "l", 1, 1, 1, 1, 1), limit("/", "z", 1, 1, 1, 1, 1)},
		Objects:  []api.Object{y, x, versioned(asks("/", "x", ""), 0)},
		Bindings: []api.Binding{{Path: "?"}}, Uses: []api.Use{{Path: "?", Value: -1}},
	}
	ofIs(t, d, api.ErrBelow)
	d.Quotas[1].Hard[0].Value = 3000
	ofIs(t, d, api.OK)
	w, _ := admit.Of(d)
	d = w.Dump()
	if !slices.Equal(d.Nodes, []string{"/", "/a", "/a/b", "/a-b"}) || d.Version != 0 || d.Bindings != nil ||
		d.Quotas[0].Name != "a" || d.Quotas[1].Name != "z" || d.Quotas[2].Path != "/a/b" || d.Quotas[3].Path != "/a-b" ||
		d.Limits[0].Path != "/" || d.Limits[1].Name != "l" || d.Limits[2].Name != "m" ||
		d.Objects[0].Path != "/" || d.Objects[1].Path != "/a" || d.Objects[2].Path != "/a/b" {
		t.Errorf("Dump = %+v", d)
	}
	ofIs(t, api.Dump{}, api.OK)
	ofIs(t, api.Dump{Nodes: []string{"/"}}, api.OK)
	// What lies there isn't judged by limit ranges, nor by what quotas ask to be named.
	ofIs(t, api.Dump{Limits: []api.LimitRange{limit("/", "l", 100, off, off, off, off)}, Quotas: []api.Quota{hard("/", "q", "limits.mem 0 requests.cpu 5")}, Objects: []api.Object{asks("/", "x", "cpu 5"), parts("/", "y", part("main", "", "")), parts("/", "z", part("main", "mem 9", "disk 8"))}}, api.OK)
}

// Of tells the first fault: nodes, then quotas in their order, limit ranges, objects, and what is used at last.
func TestOfInOrder(t *testing.T) {
	wrongQuota, wrongRange, wrongObject := hard("/", "q", ""), limit("/", "l", -2, 1, 1, 1, 1), asks("/", "X", "")
	far, x := asks("/b", "x", ""), asks("/", "x", "cpu 5")
	fineQuota, fineRange := hard("/", "q", "count 9000"), limit("/", "l", 1, 1, 1, 1, 1)
	long := stretched(t, bulky("/", "x", 0), api.MaxValue)
	long.Version = 128
	beyond := parts("/", "y", part("a", "cpu 9223372036854775807", ""), part("b", "cpu 1", ""))
	high := asks("/", "y", "cpu 9223372036854775803")
	quotas := func(l ...api.Quota) []api.Quota { return l }
	ranges := func(l ...api.LimitRange) []api.LimitRange { return l }
	objects := func(l ...api.Object) []api.Object { return l }
	for _, c := range []struct {
		d    api.Dump
		want api.Errno
	}{
		{api.Dump{Nodes: []string{"/b/c", "b"}, Quotas: quotas(wrongQuota)}, api.ErrPath},
		{api.Dump{Nodes: []string{"/b", "/b"}, Quotas: quotas(wrongQuota)}, api.ErrNode},
		{api.Dump{Nodes: []string{"/", "/"}}, api.ErrNode},
		{api.Dump{Nodes: []string{"/b/c"}, Quotas: quotas(wrongQuota)}, api.ErrNoNode},
		{api.Dump{Quotas: quotas(wrongQuota, hard("/b", "q", "count 1")), Limits: ranges(limit("/b", "l", 1, 1, 1, 1, 1)), Objects: objects(far)}, api.ErrObject},
		{api.Dump{Quotas: quotas(hard("/b", "q", "count 1"), wrongQuota), Limits: ranges(wrongRange), Objects: objects(wrongObject)}, api.ErrNoNode},
		{api.Dump{Quotas: quotas(fineQuota, wrongQuota), Limits: ranges(fineRange, fineRange)}, api.ErrObject},
		{api.Dump{Quotas: quotas(fineQuota, fineQuota, wrongQuota), Limits: ranges(wrongRange)}, api.ErrExists},
		{api.Dump{Quotas: quotas(fineQuota), Limits: ranges(wrongRange), Objects: objects(far)}, api.ErrObject},
		{api.Dump{Quotas: quotas(fineQuota), Limits: ranges(limit("/b", "l", 1, 1, 1, 1, 1), wrongRange)}, api.ErrNoNode},
		{api.Dump{Quotas: quotas(fineQuota), Limits: ranges(fineRange, wrongRange)}, api.ErrObject},
		{api.Dump{Quotas: quotas(fineQuota), Limits: ranges(fineRange, fineRange), Objects: objects(long)}, api.ErrExists},
		{api.Dump{Quotas: quotas(hard("/", "q", "count 0")), Limits: ranges(fineRange), Objects: objects(x, wrongObject)}, api.ErrObject},
		{api.Dump{Objects: objects(long, wrongObject)}, api.ErrLong},
		{api.Dump{Objects: objects(far, long)}, api.ErrNoNode},
		{api.Dump{Objects: objects(x, versioned(x, 9), beyond)}, api.ErrExists},
		{api.Dump{Quotas: quotas(hard("/", "q", "count 0")), Objects: objects(beyond, wrongObject)}, api.ErrOver},
		{api.Dump{Quotas: quotas(hard("/", "q", "count 0")), Objects: objects(x, high)}, api.ErrOver},
		{api.Dump{Quotas: quotas(hard("/", "q", "count 0")), Objects: objects(x)}, api.ErrBelow},
		{api.Dump{Quotas: quotas(fineQuota, hard("/", "r", "requests.cpu 4")), Objects: objects(x)}, api.ErrBelow},
		{api.Dump{Quotas: quotas(fineQuota, hard("/", "r", "requests.cpu 5"), scoped(hard("/", "s", "count 0"), api.ScopeEnds, 0)), Objects: objects(x)}, api.OK},
		{api.Dump{Objects: objects(parts("/", "x", part("main", "mem 1 cpu 1", "")))}, api.ErrObject}, // not in its one form
	} {
		ofIs(t, c.d, c.want)
	}
}

func TestOfMany(t *testing.T) {
	var d api.Dump
	for i := range 16 {
		d.Nodes = append(d.Nodes, fmt.Sprint("/n", i))
		d.Quotas = append(d.Quotas, hard("/n0", fmt.Sprint("q", i), "count 1"), hard("/", fmt.Sprint("q", i), "count 1"))
		d.Limits = append(d.Limits, limit("/n0", fmt.Sprint("q", i), 1, 1, 1, 1, 1), limit("/", fmt.Sprint("q", i), 1, 1, 1, 1, 1))
	}
	ofIs(t, d, api.OK)
	more := d
	more.Limits = append(slices.Clone(d.Limits), limit("/n0", "z", 1, 1, 1, 1, 1))
	ofIs(t, more, api.ErrMany)
	more.Quotas = append(slices.Clone(d.Quotas), hard("/n0", "z", "count 1"))
	ofIs(t, more, api.ErrMany)
	more.Quotas = append(slices.Clone(d.Quotas), hard("/n0", "q7", "count 1"))
	ofIs(t, more, api.ErrExists)
	more = d
	more.Limits = append(slices.Clone(d.Limits), limit("/", "q7", 1, 1, 1, 1, 1))
	ofIs(t, more, api.ErrExists)
}
