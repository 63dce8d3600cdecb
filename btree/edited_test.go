package btree_test

import (
	"math/rand/v2"
	"slices"
	"testing"

	"bursar/api"
	"bursar/btree"
	"bursar/dev"
	"bursar/page"
	"bursar/space"
)

// lay writes a page where nobody asked for it.
func lay(t *testing.T, d *dev.Dev, block int, n api.Node) {
	t.Helper()
	b, errno := page.Encode(n)
	if errno != api.OK {
		t.Fatalf("no page: %v", n)
	}
	if errno := d.Edit(block, 0, b); errno != api.OK {
		t.Fatal(errno)
	}
}

// outcome: what may be answered of an edited tree.
func (w *world) outcome(what string, errno api.Errno, allowed ...api.Errno) {
	w.t.Helper()
	if errno != api.OK && !slices.Contains(allowed, errno) {
		w.t.Fatalf("%s of an edited tree: %d", what, errno)
	}
}

// reads makes every call that only reads: none writes, none reads more pages than there are blocks.
func (w *world) reads(key string) {
	w.t.Helper()
	before := w.told()
	last := w.d.Counts()
	check := func(what string, errno api.Errno) {
		w.t.Helper()
		w.outcome(what, errno, api.ErrCorrupt)
		now := w.d.Counts()
		if now.Writes != last.Writes || now.Flushes != last.Flushes || now.Reads-last.Reads > w.d.Blocks() || w.told() != before {
			w.t.Fatalf("%s of an edited tree: %v, was %v", what, now, last)
		}
		last = now
	}
	v, there, errno := w.x.Get(key)
	if errno != api.OK && (v != "" || there) {
		w.t.Fatalf("Get: %q, %v, %d", v, there, errno)
	}
	check("Get", errno)
	l, more, errno := w.x.Scan("", "", 1<<40)
	if errno != api.OK && (len(l) > 0 || more) {
		w.t.Fatalf("Scan: %v, %v, %d", l, more, errno)
	}
	check("Scan", errno)
	_, _, errno = w.x.Scan(key, "", 3)
	check("Scan", errno)
	for range w.x.All() {
	}
	check("All", w.x.Err())
	shape, errno := w.x.Shape()
	if errno != api.OK && shape != (api.Shape{}) {
		w.t.Fatalf("Shape: %v, %d", shape, errno)
	}
	check("Shape", errno)
	blocks, errno := w.x.Blocks()
	if errno != api.OK && len(blocks) > 0 {
		w.t.Fatalf("Blocks: %v, %d", blocks, errno)
	}
	check("Blocks", errno)
}

// changes makes calls that change: each ends, and a refused one leaves what the tree and its space tell.
func (w *world) changes(keys []string, value string) {
	w.t.Helper()
	for i, key := range keys {
		before, counts := w.told(), w.d.Counts()
		var errno api.Errno
		if i%2 == 0 {
			errno = w.x.Put(key, value)
			w.outcome("Put", errno, api.ErrCorrupt, api.ErrNoSpace)
		} else {
			var was bool
			was, errno = w.x.Delete(key)
			w.outcome("Delete", errno, api.ErrCorrupt, api.ErrNoSpace)
			if was && errno != api.OK {
				w.t.Fatalf("Delete: %v, %d", was, errno)
			}
		}
		if errno != api.OK && w.told() != before {
			w.t.Fatalf("a refused change of an edited tree: %s, was %s", w.told(), before)
		}
		if now := w.d.Counts(); now.Reads-counts.Reads > w.d.Blocks() || now.Flushes != counts.Flushes {
			w.t.Fatalf("a change of an edited tree: %v, was %v", now, counts)
		}
	}
}

// image: a tree's medium, from which edited ones are made.
type image struct {
	medium []byte
	taken  []int
	root   int
	pages  map[int]api.Node
	keys   []string
}

func imageOf(s *script) *image {
	s.t.Helper()
	s.d.Flush()
	m := &image{medium: s.d.Medium(), taken: s.s.Taken(), root: s.x.Root(), pages: map[int]api.Node{}}
	for block := range judgedBlocks(s.t, s.world) {
		m.pages[block], _ = pageOf(s.d, block)
	}
	for _, e := range sorted(s.model) {
		m.keys = append(m.keys, e.Key)
	}
	return m
}

func (m *image) world(t *testing.T) *world {
	t.Helper()
	d, errno := dev.Of(m.medium)
	if errno != api.OK {
		t.Fatal(errno)
	}
	s, errno := space.New(d.Blocks(), 2, m.taken)
	if errno != api.OK {
		t.Fatal(errno)
	}
	w := &world{t: t, d: d, s: s}
	w.open(m.root)
	return w
}

// spoil edits one page: as bytes, or so that it is a page again.
func (m *image) spoil(w *world, r *rand.Rand) {
	blocks := slices.Sorted(func(yield func(int) bool) {
		for block := range m.pages {
			if !yield(block) {
				return
			}
		}
	})
	at, other := blocks[r.IntN(len(blocks))], blocks[r.IntN(len(blocks))]
	n := m.pages[at]
	switch r.IntN(9) {
	case 0: // some bytes
		w.d.Edit(at, r.IntN(500), []byte{byte(r.IntN(256)), byte(r.IntN(256))})
		return
	case 1: // nothing
		w.d.Edit(at, 0, make([]byte, 512))
		return
	case 2: // another page of the tree
		n = m.pages[other]
	case 3: // a child, a chain or a next page elsewhere: in a circle, beyond the device, on a free block
		to := []int{at, m.root, other, 1, 4095, w.d.Blocks() - 1, blocks[len(blocks)-1] + 1}[r.IntN(7)]
		switch n.Kind {
		case inner:
			n.Children = slices.Clone(n.Children)
			n.Children[r.IntN(len(n.Children))] = to
		case leaf:
			n.Chains, n.Entries = slices.Clone(n.Chains), slices.Clone(n.Entries)
			i := r.IntN(len(n.Chains))
			n.Chains[i], n.Entries[i].Value = to, ""
		case chain:
			n.Next = to
		}
	case 4: // fewer keys, or entries, or bytes
		switch n.Kind {
		case inner:
			n.Keys, n.Children = n.Keys[:1], n.Children[:2]
		case leaf:
			n.Entries, n.Chains = n.Entries[:1], n.Chains[:1]
		case chain:
			n.Data = n.Data[:1]
		}
	case 5: // keys that are not where they belong
		switch n.Kind {
		case inner:
			n.Keys = slices.Clone(n.Keys)
			n.Keys[0] = "\x00"
		case leaf:
			n.Entries = slices.Clone(n.Entries)
			n.Entries[len(n.Entries)-1].Key = "\xff\xff"
		}
	case 6: // a page of another kind
		n = []api.Node{
			{Kind: leaf, Entries: []api.Entry{{Key: "m"}}, Chains: []int{0}},
			{Kind: inner, Keys: []string{"m"}, Children: []int{at, m.root ^ other ^ 1<<11}},
			{Kind: chain, Data: "x", Next: at},
		}[r.IntN(3)]
	case 7: // children in another order
		n.Children = slices.Clone(n.Children)
		slices.Reverse(n.Children)
	case 8: // a leaf as long as can be, of the least keys
		n = api.Node{Kind: leaf}
		for i := range 168 {
			n.Entries = append(n.Entries, api.Entry{Key: string([]byte{byte(i)})})
			n.Chains = append(n.Chains, 0)
		}
	}
	if b, errno := page.Encode(n); errno == api.OK {
		w.d.Edit(at, 0, b)
	}
}

// Whatever is edited: every call ends, with an error that is named, and writes nothing if it only reads.
func TestEdited(t *testing.T) {
	for i, k := range kinds() {
		t.Run(k.name, func(t *testing.T) {
			t.Parallel()
			s := newScript(t, 150, k, uint64(i)+30)
			s.run(150, 0.25, func() {})
			m := imageOf(s)
			for range 100 {
				w := m.world(t)
				for range 1 + s.r.IntN(3) {
					m.spoil(w, s.r)
				}
				w.reads(k.key(s.r))
				w.reads(m.keys[s.r.IntN(len(m.keys))])
				keys := []string{k.key(s.r), k.key(s.r), "\x00", "\x00", "\xff", "\xff"}
				for range 10 {
					keys = append(keys, m.keys[s.r.IntN(len(m.keys))])
				}
				w.changes(keys, k.value(s.r))
				w.reads(k.key(s.r))
			}
		})
	}
}

// A root's block that is no page at all: nothing is gone through, and Err tells it, as long as it stays so.
func TestNoPage(t *testing.T) {
	w := newWorld(t, 64)
	w.put("a", letters(700, 1), api.OK)
	w.put("b", "2", api.OK)
	w.d.Flush()
	root := w.x.Root()
	good, _ := w.d.Raw(root)
	link := chainBlock(t, w)
	for _, block := range []int{1, 50, 63, link} {
		w.open(block)
		for range 2 {
			for range w.x.All() {
				t.Error("an entry of no page")
			}
			if w.x.Err() != api.ErrCorrupt {
				t.Errorf("Err: %d", w.x.Err())
			}
		}
		w.get("a", "", false, api.ErrCorrupt)
		w.scan("", "", 0, "[]", false, api.ErrCorrupt)
		w.put("a", "", api.ErrCorrupt)
		w.drop("a", false, api.ErrCorrupt)
		w.reads("a")
	}
	w.open(root)
	for at := range 512 {
		w.d.Edit(root, at, []byte{good[at] ^ 16})
		for range w.x.All() {
			t.Fatalf("an entry of a page of which byte %d is edited", at)
		}
		if w.x.Err() != api.ErrCorrupt {
			t.Fatalf("byte %d: Err %d", at, w.x.Err())
		}
		w.d.Edit(root, at, good[at:at+1])
	}
	w.same(map[string]string{"a": letters(700, 1), "b": "2"})
}

func chainBlock(t *testing.T, w *world) int {
	t.Helper()
	n, err := pageOf(w.d, w.x.Root())
	if err != nil || n.Kind != leaf || n.Chains[0] == 0 {
		t.Fatalf("the root: %v, %v", n, err)
	}
	return n.Chains[0]
}

// What leads round in a circle ends, when as many pages were read as there are blocks.
func TestCircles(t *testing.T) {
	page := func(i int) api.Node {
		return api.Node{Kind: leaf, Entries: []api.Entry{{Key: "c"}, {Key: "d", Value: name(i, 60)}}, Chains: []int{0, 0}}
	}
	for _, blocks := range []int{64, 300} {
		for _, children := range [][]int{{10, 11}, {11, 10}, {11, 12, 10}} {
			w := newWorld(t, blocks)
			keys := []string{"m", "t"}[:len(children)-1]
			lay(t, w.d, 10, api.Node{Kind: inner, Keys: keys, Children: children})
			lay(t, w.d, 11, page(11))
			lay(t, w.d, 12, page(12))
			w.open(10)
			for _, key := range []string{"a", "m", "z"} {
				w.reads(key)
				w.changes([]string{key, key}, "1")
			}
			if _, errno := w.x.Shape(); errno != api.ErrCorrupt {
				t.Errorf("Shape: %d", errno)
			}
		}
		// A chain that leads back, and one that is too long, or too short.
		for _, next := range []int{20, 21, 0, 4095} {
			w := newWorld(t, blocks)
			lay(t, w.d, 10, api.Node{Kind: leaf, Entries: []api.Entry{{Key: "a"}, {Key: "b", Value: "2"}}, Chains: []int{20, 0}})
			lay(t, w.d, 20, api.Node{Kind: chain, Data: vs(64), Next: next})
			lay(t, w.d, 21, api.Node{Kind: chain, Data: vs(500), Next: 20})
			w.open(10)
			w.get("a", "", false, api.ErrCorrupt)
			w.get("b", "2", true, api.OK)
			w.reads("a")
			w.changes([]string{"a", "b", "c"}, "1")
		}
	}
}

// Pages of one kind where those of another must stand.
func TestOtherKinds(t *testing.T) {
	small := api.Node{Kind: leaf, Entries: []api.Entry{{Key: "b"}}, Chains: []int{0}}
	link := api.Node{Kind: chain, Data: vs(100)}
	fork := api.Node{Kind: inner, Keys: []string{"m"}, Children: []int{20, 21}}
	for _, instead := range []api.Node{small, fork} {
		w := newWorld(t, 64)
		lay(t, w.d, 10, api.Node{Kind: leaf, Entries: []api.Entry{{Key: "a"}, {Key: "b"}}, Chains: []int{11, 0}})
		lay(t, w.d, 11, instead)
		w.open(10)
		w.corrupt("a")
	}
	w := newWorld(t, 64)
	lay(t, w.d, 10, fork)
	lay(t, w.d, 20, link)
	lay(t, w.d, 21, small)
	w.open(10)
	w.corrupt("a")
	lay(t, w.d, 10, link)
	w.corrupt("a")
}

// corrupt: every call that comes upon a key meets a page that is none of its kind.
func (w *world) corrupt(key string) {
	w.t.Helper()
	before, writes := w.told(), w.d.Counts().Writes
	w.get(key, "", false, api.ErrCorrupt)
	w.put(key, "1", api.ErrCorrupt)
	w.drop(key, false, api.ErrCorrupt)
	w.scan("", "", 1, "[]", false, api.ErrCorrupt)
	for range w.x.All() {
		w.t.Error("an entry ahead of the first")
	}
	if w.x.Err() != api.ErrCorrupt {
		w.t.Errorf("Err: %d", w.x.Err())
	}
	if shape, errno := w.x.Shape(); shape != (api.Shape{}) || errno != api.ErrCorrupt {
		w.t.Errorf("Shape: %v, %d", shape, errno)
	}
	if blocks, errno := w.x.Blocks(); len(blocks) > 0 || errno != api.ErrCorrupt {
		w.t.Errorf("Blocks: %v, %d", blocks, errno)
	}
	if w.told() != before || w.d.Counts().Writes != writes {
		w.t.Errorf("%s, was %s", w.told(), before)
	}
}

// Also in the largest device.
func TestGreatCircle(t *testing.T) {
	w := newWorld(t, 4096)
	lay(t, w.d, 10, api.Node{Kind: inner, Keys: []string{"m"}, Children: []int{11, 10}})
	lay(t, w.d, 11, api.Node{Kind: leaf, Entries: []api.Entry{{Key: "c"}}, Chains: []int{0}})
	w.open(10)
	w.get("z", "", false, api.ErrCorrupt)
	if reads := w.d.Counts().Reads; reads != 4096 {
		t.Errorf("%d pages were read", reads)
	}
	w.reads("a")
}

// A neighbour of another kind, or whose keys are not above, is told as ErrCorrupt; nothing is written then.
func TestWrongNeighbour(t *testing.T) {
	long := func(keys ...string) api.Node {
		n := api.Node{Kind: leaf}
		for _, k := range keys {
			n.Entries = append(n.Entries, api.Entry{Key: k + ks(100)})
			n.Chains = append(n.Chains, 0)
		}
		return n
	}
	for _, neighbour := range []api.Node{
		{Kind: inner, Keys: []string{ks(120)}, Children: []int{30, 31}},
		{Kind: chain, Data: vs(500)},
		long("a", "b"),
		long("a", "b", "c", "d"),
		long("c", "d", "e", "f"),
	} {
		for _, first := range []bool{false, true} {
			w := newWorld(t, 64)
			children := []int{11, 12}
			if first {
				children = []int{12, 11}
			}
			lay(t, w.d, 10, api.Node{Kind: inner, Keys: []string{"m"}, Children: children})
			lay(t, w.d, 11, long("c", "d"))
			lay(t, w.d, 12, neighbour)
			w.open(10)
			if first {
				lay(t, w.d, 11, long("n", "o"))
				lay(t, w.d, 10, api.Node{Kind: inner, Keys: []string{"m"}, Children: children})
			}
			before, writes := w.told(), w.d.Counts().Writes
			key := map[bool]string{false: "c", true: "n"}[first] + ks(100)
			was, errno := w.x.Delete(key)
			w.outcome("Delete", errno, api.ErrCorrupt)
			if neighbour.Kind != leaf && (errno != api.ErrCorrupt || was) {
				t.Errorf("beside a page of kind %d: %v, %d", neighbour.Kind, was, errno)
			}
			if errno != api.OK && (w.told() != before || w.d.Counts().Writes != writes) {
				t.Errorf("a refused Delete: %s, was %s", w.told(), before)
			}
		}
	}
}

// A space that gives out what it shouldn't: nothing is said, but that no call panics, and each ends.
func TestStrangeSpaces(t *testing.T) {
	for _, l := range []struct{ blocks, first int }{{4096, 0}, {4096, 60}, {4096, 64}, {64, 0}, {0, 0}, {10, 9}} {
		d, _ := dev.New(64)
		s, errno := space.New(l.blocks, l.first, nil)
		if errno != api.OK {
			t.Fatal(errno)
		}
		x, errno := btree.Open(d, s, 0)
		if errno != api.OK {
			t.Fatal(errno)
		}
		x.Put("a", letters(700, 1))
		for i := range 200 {
			x.Put(name(i, 50), letters(i*5, i))
			x.Get(name(i/2, 50))
			if i%3 == 0 {
				x.Delete(name(i/2, 50))
			}
			if i%20 == 0 {
				x.Shape()
				x.Blocks()
				x.Scan("", "", i)
				for range x.All() {
				}
			}
		}
	}
}
