package btree_test

import (
	"fmt"
	"maps"
	"slices"
	"strings"
	"testing"

	"bursar/api"
	"bursar/btree"
	"bursar/dev"
	"bursar/space"
)

// Example 1, and the other errors of arguments (P10.1).
func TestEmpty(t *testing.T) {
	w := newWorld(t, 64)
	before := w.told()
	if w.x.Root() != 0 || w.shape() != (api.Shape{}) || w.x.Err() != api.OK {
		t.Errorf("root %d, shape %v, Err %d", w.x.Root(), w.shape(), w.x.Err())
	}
	if blocks, errno := w.x.Blocks(); len(blocks) != 0 || errno != api.OK {
		t.Errorf("Blocks: %v, %d", blocks, errno)
	}
	for range w.x.All() {
		t.Error("All of an empty tree")
	}
	w.get("a", "", false, api.OK)
	w.get(ks(120), "", false, api.OK)
	w.get("", "", false, api.ErrArg)
	w.get(ks(121), "", false, api.ErrLong)
	w.get(ks(100000), "", false, api.ErrLong)
	w.drop("a", false, api.OK)
	w.drop(ks(120), false, api.OK)
	w.drop("", false, api.ErrArg)
	w.drop(ks(121), false, api.ErrLong)
	w.put("", "", api.ErrArg)
	w.put("", vs(8193), api.ErrArg)
	w.put(ks(121), "", api.ErrLong)
	w.put("a", vs(8193), api.ErrLong)
	w.scan("", "", 5, "[]", false, api.OK)
	w.scan("", "", 0, "[]", false, api.OK)
	w.scan("", "", -1, "[]", false, api.ErrArg)
	w.scan("b", "a", -1<<63, "[]", false, api.ErrArg)
	w.scan(ks(500), ks(600), 1<<62, "[]", false, api.OK)
	if counts := w.d.Counts(); counts != (api.Counts{}) || w.told() != before {
		t.Errorf("P10.5: %v, %s, was %s", counts, w.told(), before)
	}
}

func TestOpen(t *testing.T) {
	w := newWorld(t, 64)
	for _, root := range []int{-1, -1 << 63, 64, 65, 1<<63 - 1} {
		if x, errno := btree.Open(w.d, w.s, root); x != nil || errno != api.ErrArg {
			t.Errorf("Open at %d: %v, %d", root, x, errno)
		}
	}
	for _, root := range []int{0, 1, 2, 63} {
		if x, errno := btree.Open(w.d, w.s, root); x == nil || errno != api.OK || x.Root() != root {
			t.Errorf("Open at %d: %d", root, errno)
		}
	}
	if x, errno := btree.Open(nil, w.s, 0); x != nil || errno != api.ErrArg {
		t.Errorf("Open of no device: %d", errno)
	}
	if x, errno := btree.Open(w.d, nil, 0); x != nil || errno != api.ErrArg {
		t.Errorf("Open of no space: %d", errno)
	}
	if x, errno := btree.Open(nil, nil, -1); x != nil || errno != api.ErrArg {
		t.Errorf("Open of nothing: %d", errno)
	}
	// Nothing is read: neither of a device that is down, nor of one where no page lies.
	w.d.Arm(0)
	w.d.Flush()
	if x, errno := btree.Open(w.d, w.s, 5); x == nil || errno != api.OK || w.d.Counts() != (api.Counts{}) {
		t.Errorf("Open of a device that is down: %d, %v", errno, w.d.Counts())
	}
}

// Example 2 and 3 (P10.1 to P10.3, P10.6).
func TestFew(t *testing.T) {
	w := newWorld(t, 64)
	w.put("b", "2", api.OK)
	w.put("a", "1", api.OK)
	w.put("c", "", api.OK)
	if shape := w.shape(); shape != (api.Shape{Height: 1, Leaves: 1, Blocks: 1, Entries: 3}) {
		t.Errorf("P10.2: %v", shape)
	}
	w.sound(map[string]string{"a": "1", "b": "2", "c": ""}, nil)
	w.scan("", "", 2, "[{a 1} {b 2}]", true, api.OK)
	w.scan("", "", 3, "[{a 1} {b 2} {c }]", false, api.OK)
	w.scan("b", "", 9, "[{b 2} {c }]", false, api.OK)
	w.scan("a\x00", "", 1, "[{b 2}]", true, api.OK)
	w.scan("a", "b", 1, "[{a 1}]", false, api.OK)
	w.scan("a", "b", 0, "[]", true, api.OK)
	w.scan("a", "b\x00", 1, "[{a 1}]", true, api.OK)
	w.scan("b", "a", 9, "[]", false, api.OK)
	w.scan("b", "b", 9, "[]", false, api.OK)
	w.scan("", "", 0, "[]", true, api.OK)
	w.scan("c\x00", "", 0, "[]", false, api.OK)
	w.scan(ks(1000), "", 9, "[]", false, api.OK)
	w.scan("", ks(1000), 9, "[{a 1} {b 2} {c }]", false, api.OK)
	w.get("c", "", true, api.OK)
	w.get("bb", "", false, api.OK)
	w.drop("bb", false, api.OK)

	w.put("d", letters(1000, 1), api.OK)
	w.get("d", letters(1000, 1), true, api.OK)
	if shape := w.shape(); shape != (api.Shape{Height: 1, Leaves: 1, Chains: 2, Blocks: 3, Entries: 4}) {
		t.Errorf("P10.2: %v", shape)
	}
	w.drop("d", true, api.OK)
	if blocks, errno := w.x.Blocks(); len(blocks) != 1 || errno != api.OK {
		t.Errorf("P10.3: %v, %d", blocks, errno)
	}
	for _, k := range []string{"a", "b", "c"} {
		w.drop(k, true, api.OK)
		w.drop(k, false, api.OK)
	}
	if w.x.Root() != 0 || len(w.s.Taken()) != 0 || w.s.Free() != 62 {
		t.Errorf("P10.6: root %d, taken %v", w.x.Root(), w.s.Taken())
	}
}

// A value in the place of another, with a chain and without, at all edges of their lengths.
func TestReplaced(t *testing.T) {
	w := newWorld(t, 64)
	w.put("a", "first", api.OK)
	w.put("c", letters(700, 3), api.OK)
	for i, from := range []int{0, 1, 64, 65, 499, 500, 501, 1000, 1001, 8191, 8192} {
		for j, to := range []int{0, 63, 64, 65, 66, 500, 501, 8192} {
			w.put("b", letters(from, i), api.OK)
			w.put("b", letters(to, j+100), api.OK)
			w.sound(map[string]string{"a": "first", "b": letters(to, j+100), "c": letters(700, 3)}, nil)
			w.get("b", letters(to, j+100), true, api.OK)
		}
	}
}

// Example 4.
func TestRising(t *testing.T) {
	w := newWorld(t, 64)
	var want []api.Entry
	for i := range 100 {
		w.put(name(i, 3), "0123456789", api.OK)
		want = append(want, api.Entry{Key: name(i, 3), Value: "0123456789"})
	}
	if h := w.shape().Height; h != 2 {
		t.Errorf("height %d", h)
	}
	if l, more, errno := w.x.Scan("", "", 100); !slices.Equal(l, want) || more || errno != api.OK {
		t.Errorf("Scan: %v, %v, %d", l, more, errno)
	}
	if l, more, errno := w.x.Scan("", "", 99); !slices.Equal(l, want[:99]) || !more || errno != api.OK {
		t.Errorf("Scan: %v, %v, %d", l, more, errno)
	}
}

// Example 5 (P10.4).
func TestCommitted(t *testing.T) {
	w := newWorld(t, 64)
	w.put("a", "1", api.OK)
	w.d.Flush()
	w.s.Commit()
	r := w.x.Root()
	w.put("a", "2", api.OK)
	w.drop("a", true, api.OK)
	if held := w.s.Held(); !slices.Equal(held, []int{r}) || len(w.s.Taken()) != 0 {
		t.Errorf("held %v, taken %v", held, w.s.Taken())
	}
	w.open(r)
	w.get("a", "1", true, api.OK)
	w.d.Crash([]api.Fate{{Kind: api.Kept}, {Kind: api.Kept}})
	w.get("a", "1", true, api.OK)
	// A tree whose blocks are held can be changed still; nothing of what was committed is written over.
	w.put("b", "3", api.OK)
	w.scan("", "", 9, "[{a 1} {b 3}]", false, api.OK)
	w.open(r)
	w.scan("", "", 9, "[{a 1}]", false, api.OK)
}

// Example 6: a space with one free block, and a leaf without room.
func TestNoRoom(t *testing.T) {
	d, _ := dev.New(64)
	s, _ := space.New(5, 3, nil)
	x, errno := btree.Open(d, s, 0)
	if errno != api.OK {
		t.Fatal(errno)
	}
	w := &world{t, d, s, x}
	w.put("a"+ks(119), vs(64), api.OK)
	w.put("b"+ks(119), vs(64), api.OK)
	before := w.told()
	w.put("c"+ks(119), vs(64), api.ErrNoSpace)
	w.put("b", vs(65), api.ErrNoSpace)
	w.put("b"+ks(119), vs(501), api.ErrNoSpace)
	if w.told() != before || w.s.Free() != 1 {
		t.Errorf("%s, was %s", w.told(), before)
	}
	w.sound(map[string]string{"a" + ks(119): vs(64), "b" + ks(119): vs(64)}, nil)
	w.put("c", vs(64), api.OK)
	w.drop("c", true, api.OK)
	// Without any free block a change is refused, but nothing else: also not what takes the last entry away.
	if _, errno := s.Take(); errno != api.OK {
		t.Fatal(errno)
	}
	before = w.told()
	w.put("a", "", api.ErrNoSpace)
	w.drop("a"+ks(119), false, api.ErrNoSpace)
	w.drop("a", false, api.OK)
	w.get("a"+ks(119), vs(64), true, api.OK)
	if w.told() != before {
		t.Errorf("%s, was %s", w.told(), before)
	}
}

// Up to the last block, and back (P10.5, P10.6).
func TestFull(t *testing.T) {
	for _, length := range []int{0, 60, 64, 65, 400, 1200} {
		w := newWorld(t, 64)
		model := map[string]string{}
		i := 0
		for ; i < 3000; i++ {
			bound := 2*w.shape().Height + 2 + (length+499)/500
			if length <= 64 {
				bound = 2*w.shape().Height + 2
			}
			errno := w.x.Put(name(i, 60), vs(length))
			if errno == api.ErrNoSpace && w.s.Free() < bound {
				break
			}
			if errno != api.OK {
				t.Fatalf("P10.5: Put with %d free blocks, %d needed: %d", w.s.Free(), bound, errno)
			}
			model[name(i, 60)] = vs(length)
		}
		w.sound(model, nil)
		w.same(model)
		before := w.told()
		w.put("zzz", vs(8192), api.ErrNoSpace)
		w.get("zzz", "", false, api.OK)
		if w.told() != before {
			t.Errorf("%s, was %s", w.told(), before)
		}
		// Deleting needs some room, too.
		for _, e := range slices.Backward(sorted(model)) {
			if _, errno := w.x.Delete(e.Key); errno == api.OK {
				delete(model, e.Key)
			} else if errno != api.ErrNoSpace || w.s.Free() >= 2*w.shape().Height+2 {
				t.Fatalf("P10.5: Delete with %d free blocks: %d", w.s.Free(), errno)
			}
		}
		w.sound(model, nil)
	}
}

// All can be left, gone through again, and gone through within itself; Err tells of the one that ended last.
func TestAll(t *testing.T) {
	w := newWorld(t, 200)
	for i := range 60 {
		w.put(name(i, 30), letters(i*11, i), api.OK)
	}
	all := w.x.All()
	for most := range 62 {
		seen := 0
		for k, v := range all {
			if k != name(seen, 30) || v != letters(seen*11, seen) {
				t.Fatalf("entry %d is %q", seen, k)
			}
			if seen++; seen == most {
				break
			}
		}
		if want := min(max(most, 1), 60); most > 0 && seen != want || w.x.Err() != api.OK {
			t.Errorf("left behind %d: %d, Err %d", most, seen, w.x.Err())
		}
	}
	pairs := 0
	for a := range w.x.All() {
		for b := range w.x.All() {
			if b > a {
				break
			}
			pairs++
		}
	}
	if pairs != 61*30 || w.x.Err() != api.OK {
		t.Errorf("%d pairs, Err %d", pairs, w.x.Err())
	}
	// What is gone through is the tree of then, not of when All was called.
	w.put("a", "", api.OK)
	last := ""
	for k := range all {
		last = k
	}
	if last != "a" {
		t.Errorf("the last key is %q", last)
	}
}

func TestErr(t *testing.T) {
	w := newWorld(t, 200)
	for i := range 40 {
		w.put(name(i, 60), vs(60), api.OK)
	}
	w.put("z", letters(600, 1), api.OK)
	w.d.Flush()
	leaf, err := pageOf(w.d, w.x.Root())
	if err != nil || leaf.Kind != inner {
		t.Fatalf("the root: %v, %v", leaf, err)
	}
	// The last leaf's chain is broken: all entries ahead of it are handed on.
	first := chainOf(t, w.d, w.x.Root())
	good, _ := w.d.Raw(first)
	w.d.Edit(first, 300, []byte{1, 2, 3})
	seen := 0
	for k := range w.x.All() {
		if k == "z" {
			t.Error("an entry whose chain is broken")
		}
		seen++
	}
	if seen != 40 || w.x.Err() != api.ErrCorrupt {
		t.Errorf("%d entries, Err %d", seen, w.x.Err())
	}
	w.get("z", "", false, api.ErrCorrupt)
	w.get(name(3, 60), vs(60), true, api.OK)
	w.scan("z", "", 1, "[]", false, api.ErrCorrupt)
	w.scan("y", "", 0, "[]", true, api.OK)
	// Left ahead of it: no error ended it. But the one that ended last tells.
	for range w.x.All() {
		break
	}
	if w.x.Err() != api.OK {
		t.Errorf("Err behind a loop that was left: %d", w.x.Err())
	}
	for range w.x.All() {
		for range w.x.All() {
		}
		if w.x.Err() != api.ErrCorrupt {
			t.Errorf("Err behind the inner loop: %d", w.x.Err())
		}
		break
	}
	if w.x.Err() != api.OK {
		t.Errorf("Err behind the outer loop: %d", w.x.Err())
	}
	for range w.x.All() {
		for range w.x.All() {
			break
		}
	}
	if w.x.Err() != api.ErrCorrupt {
		t.Errorf("Err behind the outer loop: %d", w.x.Err())
	}
	// Left by a panic, it is left all the same.
	for range w.x.All() {
	}
	func() {
		defer func() { recover() }()
		for range w.x.All() {
			panic("out")
		}
	}()
	if w.x.Err() != api.OK {
		t.Errorf("Err behind a panic: %d", w.x.Err())
	}
	// Mended, it ends with none.
	w.d.Edit(first, 0, good)
	for range w.x.All() {
	}
	if w.x.Err() != api.OK {
		t.Errorf("Err: %d", w.x.Err())
	}
	// A device that goes down within the loop.
	seen = 0
	for range w.x.All() {
		if seen++; seen == 1 {
			w.d.Arm(0)
			w.d.Flush()
		}
	}
	if seen >= 40 || w.x.Err() != api.ErrDown {
		t.Errorf("%d entries, Err %d", seen, w.x.Err())
	}
}

// A device that goes down ahead of a chain: what is told is that, not that the chain is none.
func TestDownAtChain(t *testing.T) {
	w := newWorld(t, 64)
	w.put("a", "1", api.OK)
	w.put("b", letters(700, 1), api.OK)
	for k := range w.x.All() {
		if k != "a" {
			t.Errorf("the entry %q of a device that is down", k)
		}
		w.d.Arm(0)
		w.d.Flush()
	}
	if w.x.Err() != api.ErrDown {
		t.Errorf("Err: %d", w.x.Err())
	}
}

// A Scan looks at what it tells, and at the way to it, not at what lies ahead.
func TestScanReads(t *testing.T) {
	w := newWorld(t, 1000)
	for i := range 500 {
		w.put(name(i, 80), vs(60), api.OK)
	}
	height := w.shape().Height
	for i := range 490 {
		reads := w.d.Counts().Reads
		if l, more, errno := w.x.Scan(name(i, 80), "", 5); len(l) != 5 || !more || errno != api.OK {
			t.Fatalf("Scan from %d: %d, %v, %d", i, len(l), more, errno)
		}
		if reads = w.d.Counts().Reads - reads; reads > 4*height {
			t.Fatalf("Scan from %d reads %d pages, height %d", i, reads, height)
		}
	}
}

// chainOf tells the first block of a tree's last chain.
func chainOf(t *testing.T, d *dev.Dev, block int) int {
	t.Helper()
	n, err := pageOf(d, block)
	if err != nil {
		t.Fatal(err)
	}
	if n.Kind == inner {
		return chainOf(t, d, n.Children[len(n.Children)-1])
	}
	return n.Chains[len(n.Chains)-1]
}

// Where several errors apply the one that is named first is told.
func TestOrder(t *testing.T) {
	w := newWorld(t, 64)
	for i := range 30 {
		w.put(name(i, 100), vs(30), api.OK)
	}
	w.d.Flush()
	root := w.x.Root()
	good, _ := w.d.Raw(root)
	for {
		if _, errno := w.s.Take(); errno != api.OK {
			break
		}
	}
	before := w.told()
	w.put("", vs(9000), api.ErrArg)
	w.put(ks(121), "", api.ErrLong)
	w.put("a", "", api.ErrNoSpace)
	w.drop(name(3, 100), false, api.ErrNoSpace)
	w.drop("a", false, api.OK)
	w.d.Edit(root, 0, []byte{1})
	w.put("a", "", api.ErrCorrupt)
	w.put("a", vs(8193), api.ErrLong)
	w.drop(name(3, 100), false, api.ErrCorrupt)
	w.drop("a", false, api.ErrCorrupt)
	w.get("", "", false, api.ErrArg)
	w.d.Arm(0)
	w.d.Flush()
	w.put("a", "", api.ErrDown)
	w.put("", "", api.ErrArg)
	w.put("a", vs(8193), api.ErrLong)
	w.drop("a", false, api.ErrDown)
	w.drop("", false, api.ErrArg)
	w.get("a", "", false, api.ErrDown)
	w.get(ks(121), "", false, api.ErrLong)
	w.scan("", "", -1, "[]", false, api.ErrArg)
	w.scan("", "", 0, "[]", false, api.ErrDown)
	w.scan("b", "a", 1, "[]", false, api.ErrDown)
	if shape, errno := w.x.Shape(); shape != (api.Shape{}) || errno != api.ErrDown {
		t.Errorf("Shape: %v, %d", shape, errno)
	}
	if blocks, errno := w.x.Blocks(); len(blocks) != 0 || errno != api.ErrDown {
		t.Errorf("Blocks: %v, %d", blocks, errno)
	}
	for range w.x.All() {
		t.Error("All of a device that is down")
	}
	if w.x.Err() != api.ErrDown || w.x.Root() != root {
		t.Errorf("Err %d, Root %d", w.x.Err(), w.x.Root())
	}
	w.d.Crash(nil)
	w.d.Edit(root, 0, good)
	if w.told() != before {
		t.Errorf("%s, was %s", w.told(), before)
	}
	w.get(name(3, 100), vs(30), true, api.OK)
}

// What a change must read is read ahead of the first Take: a neighbour that is no page is told, though there is no room either.
func TestNeighbour(t *testing.T) {
	w := newWorld(t, 1000)
	model := map[string]string{}
	for i := range 900 {
		w.put(name(i, 60), "", api.OK)
		model[name(i, 60)] = ""
	}
	for i := range 900 {
		if i%3 != 0 {
			w.drop(name(i, 60), true, api.OK)
			delete(model, name(i, 60))
		}
	}
	w.sound(model, nil)
	w.d.Flush()
	for {
		if _, errno := w.s.Take(); errno != api.OK {
			break
		}
	}
	blocks := slices.Sorted(maps.Keys(judgedBlocks(t, w)))
	most := 0
	for i := 0; i < 900; i += 12 {
		needed := 0
		for _, block := range blocks {
			was, _ := w.d.Raw(block)
			w.d.Edit(block, 9, []byte{was[9] ^ 1})
			_, errno := w.x.Delete(name(i, 60))
			w.d.Edit(block, 9, was[9:10])
			if errno == api.ErrCorrupt {
				needed++
			} else if errno != api.ErrNoSpace {
				t.Fatalf("Delete: %d", errno)
			}
		}
		most = max(most, needed)
	}
	if most <= w.shape().Height {
		t.Errorf("at most %d blocks were needed, at height %d", most, w.shape().Height)
	}
	w.same(model)
}

func judgedBlocks(t *testing.T, w *world) map[int]bool {
	t.Helper()
	j, err := judged(w.d, w.x.Root())
	if err != nil {
		t.Fatal(err)
	}
	return j.blocks
}

// Lists that are answered are new memory.
func TestNothingShared(t *testing.T) {
	w := newWorld(t, 64)
	for i := range 50 {
		w.put(name(i, 20), vs(20), api.OK)
	}
	l, _, _ := w.x.Scan("", "", 20)
	m, _, _ := w.x.Scan("", "", 20)
	for i := range l {
		l[i] = api.Entry{Key: "x", Value: "y"}
	}
	_ = append(l, api.Entry{})
	if m[0].Key != name(0, 20) {
		t.Error("two Scans share memory")
	}
	blocks, _ := w.x.Blocks()
	want := fmt.Sprint(blocks)
	for i := range blocks {
		blocks[i] = 1
	}
	if again, _ := w.x.Blocks(); fmt.Sprint(again) != want {
		t.Error("Blocks is kept")
	}
	w.get(name(0, 20), vs(20), true, api.OK)
	// Two trees of one device and one space are their own.
	y, _ := btree.Open(w.d, w.s, 0)
	if errno := y.Put("a", "1"); errno != api.OK {
		t.Fatal(errno)
	}
	others, _ := y.Blocks()
	model := map[string]string{}
	for i := range 50 {
		model[name(i, 20)] = vs(20)
	}
	w.sound(model, others)
	w.drop(name(7, 20), true, api.OK)
	delete(model, name(7, 20))
	w.sound(model, others)
	if v, there, errno := y.Get("a"); v != "1" || !there || errno != api.OK {
		t.Errorf("the other tree: %q, %v, %d", v, there, errno)
	}
}

// The keys between pages: all bytes, and keys that begin with one another.
func TestKeys(t *testing.T) {
	keys := map[string][]string{}
	for i := range 120 {
		keys["zeros"] = append(keys["zeros"], strings.Repeat("\x00", i+1))
		keys["ends"] = append(keys["ends"], strings.Repeat("\xff", i+1))
		keys["tails"] = append(keys["tails"], strings.Repeat("a", i)+"b")
		keys["mixed"] = append(keys["mixed"], strings.Repeat("\xff", i)+"\x00")
	}
	for i := range 256 {
		keys["bytes"] = append(keys["bytes"], string([]byte{byte(i)}))
		keys["long"] = append(keys["long"], ks(119)+string([]byte{byte(i)}))
		keys["pairs"] = append(keys["pairs"], string([]byte{byte(i), 0}), string([]byte{byte(i), 255}))
	}
	for which, l := range keys {
		for _, step := range []int{1, -1, 7, 101} {
			w := newWorld(t, 1000)
			model := map[string]string{}
			for i := range l {
				k := l[((i*step)%len(l)+len(l))%len(l)]
				w.put(k, which, api.OK)
				model[k] = which
				if i%16 == 0 {
					w.sound(model, nil)
				}
			}
			w.sound(model, nil)
			w.same(model)
			for i := range l {
				k := l[(i*11)%len(l)]
				_, was := model[k]
				w.drop(k, was, api.OK)
				delete(model, k)
				if i%16 == 0 {
					w.sound(model, nil)
				}
			}
			for k := range model {
				w.drop(k, true, api.OK)
			}
			if w.x.Root() != 0 || len(w.s.Taken()) != 0 {
				t.Errorf("P10.6: %s: root %d, taken %v", which, w.x.Root(), w.s.Taken())
			}
		}
	}
}
