package fsck_test

import (
	"bytes"
	"math/rand/v2"
	"slices"
	"strings"
	"testing"

	"bursar/anchor"
	"bursar/api"
	"bursar/dev"
	"bursar/fsck"
	"bursar/object"
	"bursar/page"
	"bursar/server"
	"bursar/store"
	"bursar/wal"
)

const top = api.MaxStamp - 1<<32

func source(n uint64) *rand.Rand { return rand.New(rand.NewPCG(25, n)) }

func pick[T any](r *rand.Rand, l ...T) T { return l[r.IntN(len(l))] }

func text(n int) string { return strings.Repeat("v", n) }

func device(t testing.TB, blocks int) *dev.Dev {
	t.Helper()
	d, errno := dev.New(blocks)
	if errno != api.OK {
		t.Fatalf("dev.New(%d): %d", blocks, errno)
	}
	return d
}

func formatted(t testing.TB, blocks, log int) *dev.Dev {
	t.Helper()
	d := device(t, blocks)
	if errno := server.Format(d, log); errno != api.OK {
		t.Fatalf("Format: %d", errno)
	}
	return d
}

// laid: a device on which a store with just these entries lies.
func laid(t testing.TB, blocks, log int, version int64, entries ...api.Entry) *dev.Dev {
	t.Helper()
	d := device(t, blocks)
	entries = slices.Clone(entries)
	slices.SortFunc(entries, func(a, b api.Entry) int { return strings.Compare(a.Key, b.Key) })
	if errno := store.Lay(d, log, version, entries); errno != api.OK {
		t.Fatalf("Lay: %d", errno)
	}
	return d
}

func open(t testing.TB, d *dev.Dev) *server.Server {
	t.Helper()
	s, errno := server.Open(d)
	if s == nil || errno != api.OK {
		t.Fatalf("Open: %d", errno)
	}
	return s
}

// copied: a device of its own with what is durable on d.
func copied(t testing.TB, d *dev.Dev) *dev.Dev {
	t.Helper()
	other, errno := dev.Of(d.Medium())
	if errno != api.OK {
		t.Fatalf("dev.Of: %d", errno)
	}
	return other
}

func counting(t testing.TB, d *dev.Dev) api.Super {
	t.Helper()
	s, _, errno := anchor.Read(d)
	if errno != api.OK {
		t.Fatalf("anchor.Read: %d", errno)
	}
	return s
}

// super: of a device of 64 blocks with a log of 8, so that the tree's region begins at 10.
func super(root int, count int64) api.Super {
	return api.Super{Generation: 1, Epoch: 1, Blocks: 64, Log: 8, From: api.Mark{Stamp: 1}, Root: root, Count: count, Version: 5}
}

func entry(key, value string) api.Entry { return api.Entry{Key: key, Value: value} }

func leaf(entries ...api.Entry) api.Node {
	return api.Node{Kind: 1, Entries: entries, Chains: make([]int, len(entries))}
}

// leafOf: a leaf of 70 to 134 bytes with one entry, whose key begins so.
func leafOf(size int, key string) api.Node {
	return leaf(entry(key+strings.Repeat("_", 60-len(key)), text(size-70)))
}

// full: a leaf of these keys that is a quarter full at least.
func full(keys ...string) api.Node {
	var n api.Node
	for _, key := range keys {
		n.Entries = append(n.Entries, entry(key, text(64)))
	}
	return leaf(n.Entries...)
}

// chained: a leaf whose keys a, b .. have chains that begin on these blocks.
func chained(blocks ...int) api.Node {
	n := api.Node{Kind: 1, Chains: blocks}
	for i := range blocks {
		n.Entries = append(n.Entries, entry(string(rune('a'+i)), ""))
	}
	return n
}

func inner(keys []string, children ...int) api.Node {
	return api.Node{Kind: 2, Keys: keys, Children: children}
}

// long: a key with which alone a page is a quarter full.
func long(key string) string { return key + strings.Repeat("_", api.MaxKey-len(key)) }

// chainedFull: a leaf whose keys begin so, with chains that begin on these blocks; it is a quarter full.
func chainedFull(key string, blocks ...int) api.Node {
	n := chained(blocks...)
	for i := range n.Entries {
		n.Entries[i].Key = long(key + n.Entries[i].Key)
	}
	return n
}

// wide: an inner page of one long key.
func wide(key string, left, right int) api.Node { return inner([]string{long(key)}, left, right) }

func chain(bytes, next int) api.Node { return api.Node{Kind: 3, Data: text(bytes), Next: next} }

// chainFrom: chain pages of these numbers of bytes, on blocks that follow one another.
func chainFrom(first int, bytes ...int) map[int]api.Node {
	pages := map[int]api.Node{}
	for i, n := range bytes {
		next := first + i + 1
		if i == len(bytes)-1 {
			next = 0
		}
		pages[first+i] = chain(n, next)
	}
	return pages
}

func with(pages map[int]api.Node, block int, n api.Node) map[int]api.Node {
	pages[block] = n
	return pages
}

func lay(t testing.TB, d *dev.Dev, block int, n api.Node) {
	t.Helper()
	b, errno := page.Encode(n)
	if errno != api.OK {
		t.Fatalf("no page: %+v", n)
	}
	if errno := d.Edit(block, 0, b); errno != api.OK {
		t.Fatalf("Edit of %d: %d", block, errno)
	}
}

// put lays a superblock into its block, past the cache and without an act.
func put(t testing.TB, d *dev.Dev, s api.Super) {
	t.Helper()
	b, errno := anchor.Encode(s)
	if errno != api.OK {
		t.Fatalf("no superblock: %+v", s)
	}
	d.Edit(int(s.Generation%2), 0, b)
}

func recordOf(t testing.TB, version int64, l ...api.Change) string {
	t.Helper()
	r, errno := store.Record(version, l)
	if errno != api.OK {
		t.Fatalf("Record: %d", errno)
	}
	return r
}

// logged appends groups of records to the log of a superblock, in an epoch.
func logged(t testing.TB, d *dev.Dev, s api.Super, epoch int64, groups ...[]string) {
	t.Helper()
	l, _, errno := wal.Open(d, 2, s.Log, s.From, epoch)
	if errno != api.OK {
		t.Fatalf("wal.Open: %d", errno)
	}
	for _, group := range groups {
		for _, record := range group {
			if errno := l.Append(record); errno != api.OK {
				t.Fatalf("Append: %d", errno)
			}
		}
		if errno := l.Sync(); errno != api.OK {
			t.Fatalf("Sync: %d", errno)
		}
	}
}

// p: problems, by their rules and places.
func p(numbers ...int) []api.Problem {
	var l []api.Problem
	for i := 0; i < len(numbers); i += 2 {
		l = append(l, api.Problem{Rule: numbers[i], Block: numbers[i+1]})
	}
	return l
}

func same(t testing.TB, what string, got, want []api.Problem) {
	t.Helper()
	if !slices.Equal(got, want) {
		t.Errorf("%s: %v, want %v", what, got, want)
	}
}

// seen: what P25.4 says that no call changes.
type seen struct {
	medium, cached  []byte
	pending         []int
	writes, flushes int
	down            bool
}

func see(d *dev.Dev) seen {
	c := d.Counts()
	s := seen{medium: d.Medium(), pending: d.Pending(), writes: c.Writes, flushes: c.Flushes, down: d.Down()}
	for block := range d.Blocks() {
		b, _ := d.Read(block)
		s.cached = append(s.cached, b...)
	}
	return s
}

// looks makes a call, behind which the device must be what it was.
func looks(t testing.TB, d *dev.Dev, call func()) {
	t.Helper()
	before := see(d)
	call()
	now := see(d)
	if !bytes.Equal(before.medium, now.medium) || !bytes.Equal(before.cached, now.cached) || !slices.Equal(before.pending, now.pending) ||
		before.writes != now.writes || before.flushes != now.flushes || before.down != now.down {
		t.Errorf("a call has changed the device: %v, %d writes, %d flushes, down %v; was %v, %d, %d, %v", now.pending, now.writes, now.flushes, now.down, before.pending, before.writes, before.flushes, before.down)
	}
}

// check asks Check of a device that is up and has a superblock: all problems. That fewer are the beginning of more is asked too.
func check(t testing.TB, d *dev.Dev) []api.Problem {
	t.Helper()
	var all []api.Problem
	looks(t, d, func() {
		t.Helper()
		var errno api.Errno
		all, errno = fsck.Check(d, api.MaxFound)
		if errno != api.OK {
			t.Fatalf("Check: %d", errno)
		}
	})
	if len(all) > api.MaxFound {
		t.Errorf("Check tells %d problems", len(all))
	}
	for _, most := range []int{0, 1, 2, 5, 30, 63} {
		l, errno := fsck.Check(d, most)
		if errno != api.OK || !slices.Equal(l, all[:min(most, len(all))]) {
			t.Errorf("Check of at most %d: %v, %d, want the beginning of %v", most, l, errno, all)
		}
	}
	return all
}

// sound: Check tells nothing.
func sound(t testing.TB, what string, d *dev.Dev) {
	t.Helper()
	l, errno := fsck.Check(d, api.MaxFound)
	if len(l) != 0 || errno != api.OK {
		t.Fatalf("%s: Check: %v, %d", what, l, errno)
	}
}

// tree asks Tree of a device that is up, as check does.
func tree(t testing.TB, d *dev.Dev, s api.Super) ([]api.Problem, int64) {
	t.Helper()
	var all []api.Problem
	var count int64
	looks(t, d, func() {
		t.Helper()
		var errno api.Errno
		all, count, errno = fsck.Tree(d, s, api.MaxFound)
		if errno != api.OK {
			t.Fatalf("Tree: %d", errno)
		}
	})
	for _, most := range []int{0, 1, 2, 7, 63} {
		l, n, errno := fsck.Tree(d, s, most)
		if errno != api.OK || n != count || !slices.Equal(l, all[:min(most, len(all))]) {
			t.Errorf("Tree of at most %d: %v, %d, %d, want the beginning of %v, %d", most, l, n, errno, all, count)
		}
	}
	return all, count
}

// logOf asks Log of a device that is up.
func logOf(t testing.TB, d *dev.Dev, s api.Super) (int, []api.Problem) {
	t.Helper()
	var n int
	var l []api.Problem
	looks(t, d, func() {
		t.Helper()
		var errno api.Errno
		n, l, errno = fsck.Log(d, s)
		if errno != api.OK {
			t.Fatalf("Log: %d", errno)
		}
	})
	return n, l
}

// The records of a state as entries.

func keyOf(t testing.TB, kind int, path, name string) string {
	t.Helper()
	key, errno := object.Key(kind, path, name)
	if errno != api.OK {
		t.Fatalf("Key(%d, %q, %q): %d", kind, path, name, errno)
	}
	return key
}

// under: an entry with the key of a kind, path and name, and any bytes.
func under(t testing.TB, kind int, path, name, value string) api.Entry {
	t.Helper()
	return entry(keyOf(t, kind, path, name), value)
}

func bytesOf(t testing.TB, value string, errno api.Errno) string {
	t.Helper()
	if errno != api.OK {
		t.Fatalf("the bytes of a record: %d", errno)
	}
	return value
}

func nodeEntry(t testing.TB, path string) api.Entry {
	t.Helper()
	return under(t, api.KindNode, path, "", "")
}

func quotaEntry(t testing.TB, q api.Quota) api.Entry {
	t.Helper()
	b, errno := object.EncodeQuota(q)
	return under(t, api.KindQuota, q.Path, q.Name, bytesOf(t, b, errno))
}

func limitEntry(t testing.TB, l api.LimitRange) api.Entry {
	t.Helper()
	b, errno := object.EncodeLimit(l)
	return under(t, api.KindLimit, l.Path, l.Name, bytesOf(t, b, errno))
}

func objectEntry(t testing.TB, o api.Object) api.Entry {
	t.Helper()
	b, errno := object.EncodeObject(o)
	return under(t, api.KindObject, o.Path, o.Name, bytesOf(t, b, errno))
}

func bindingEntry(t testing.TB, b api.Binding) api.Entry {
	t.Helper()
	bytes, errno := object.EncodeBinding(b)
	return under(t, api.KindBinding, b.Path, b.Name, bytesOf(t, bytes, errno))
}

// obj: an object of one part, with a request for cpu unless that is below 0.
func obj(path, name string, priority int, cpu int64) api.Object {
	o := api.Object{Path: path, Name: name, Priority: priority, Parts: []api.Part{{Name: "main"}}}
	if cpu >= 0 {
		o.Parts[0].Requests = []api.Amount{{Name: "cpu", Value: cpu}}
	}
	return o
}

func hard(path, name, resource string, value int64) api.Quota {
	return api.Quota{Path: path, Name: name, Hard: []api.Amount{{Name: resource, Value: value}}}
}

// giving: a limit range that gives a request of cpu where none is named.
func giving(path, name string, value int64) api.LimitRange {
	return api.LimitRange{Path: path, Name: name, Rules: []api.Rule{{Resource: "cpu", Min: -1, Max: -1, Default: -1, Request: value, Ratio: -1}}}
}

func bound(path, name, subject string, verb int) api.Binding {
	return api.Binding{Path: path, Name: name, Subject: subject, Verb: verb}
}

// onlyTree asks Tree, and nothing else.
func onlyTree(t testing.TB, d *dev.Dev, s api.Super) []api.Problem {
	t.Helper()
	l, _, errno := fsck.Tree(d, s, api.MaxFound)
	if errno != api.OK {
		t.Fatalf("Tree: %d", errno)
	}
	return l
}
