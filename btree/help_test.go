package btree_test

import (
	"cmp"
	"fmt"
	"maps"
	"slices"
	"strings"
	"testing"

	"bursar/api"
	"bursar/btree"
	"bursar/dev"
	"bursar/page"
	"bursar/space"
)

const (
	leaf  = 1
	inner = 2
	chain = 3
)

// world: a device, a space from block 2 on, a tree.
type world struct {
	t *testing.T
	d *dev.Dev
	s *space.Space
	x *btree.Tree
}

func newWorld(t *testing.T, blocks int) *world {
	t.Helper()
	d, errno := dev.New(blocks)
	if errno != api.OK {
		t.Fatalf("dev.New(%d): %d", blocks, errno)
	}
	s, errno := space.New(blocks, 2, nil)
	if errno != api.OK {
		t.Fatalf("space.New: %d", errno)
	}
	w := &world{t: t, d: d, s: s}
	w.open(0)
	return w
}

func (w *world) open(root int) {
	w.t.Helper()
	x, errno := btree.Open(w.d, w.s, root)
	if x == nil || errno != api.OK {
		w.t.Fatalf("Open at %d: %d", root, errno)
	}
	w.x = x
}

func (w *world) put(key, value string, want api.Errno) {
	w.t.Helper()
	if errno := w.x.Put(key, value); errno != want {
		w.t.Fatalf("Put(%.20q, %d bytes) = %d, want %d", key, len(value), errno, want)
	}
}

func (w *world) drop(key string, want bool, wantErrno api.Errno) {
	w.t.Helper()
	if was, errno := w.x.Delete(key); was != want || errno != wantErrno {
		w.t.Fatalf("Delete(%.20q) = %v, %d, want %v, %d", key, was, errno, want, wantErrno)
	}
}

func (w *world) get(key, want string, there bool, wantErrno api.Errno) {
	w.t.Helper()
	if v, is, errno := w.x.Get(key); v != want || is != there || errno != wantErrno {
		w.t.Fatalf("Get(%.20q) = %.20q, %v, %d, want %.20q, %v, %d", key, v, is, errno, want, there, wantErrno)
	}
}

func (w *world) scan(from, to string, most int, want string, more bool, wantErrno api.Errno) {
	w.t.Helper()
	l, rest, errno := w.x.Scan(from, to, most)
	if fmt.Sprint(l) != want || rest != more || errno != wantErrno {
		w.t.Fatalf("Scan(%q, %q, %d) = %v, %v, %d, want %s, %v, %d", from, to, most, l, rest, errno, want, more, wantErrno)
	}
}

func (w *world) shape() api.Shape {
	w.t.Helper()
	shape, errno := w.x.Shape()
	if errno != api.OK {
		w.t.Fatalf("Shape: %d", errno)
	}
	return shape
}

// told: what a refused call must leave as it is.
func (w *world) told() string {
	return fmt.Sprint(w.x.Root(), w.s.Taken(), w.s.Held(), w.s.Free())
}

// name: a key of n bytes with a number.
func name(i, n int) string { return fmt.Sprintf("%0*d", n, i) }

// letters: n bytes that begin otherwise with each seed, and are no period of a chain's pages.
func letters(n, seed int) string {
	b := make([]byte, n)
	for i := range b {
		b[i] = byte(i*7 + i/251 + seed*31)
	}
	return string(b)
}

func sorted(m map[string]string) []api.Entry {
	var l []api.Entry
	for k, v := range m {
		l = append(l, api.Entry{Key: k, Value: v})
	}
	slices.SortFunc(l, func(a, b api.Entry) int { return cmp.Compare(a.Key, b.Key) })
	return l
}

// pageOf reads a block past the tree.
func pageOf(d *dev.Dev, block int) (api.Node, error) {
	b, errno := d.Read(block)
	if errno != api.OK {
		return api.Node{}, fmt.Errorf("block %d: %d", block, errno)
	}
	n, errno := page.Decode(b)
	if errno != api.OK {
		return n, fmt.Errorf("block %d is no page", block)
	}
	return n, nil
}

// judge holds a tree's pages against the chapter's Words, and gathers what they hold.
type judge struct {
	d       *dev.Dev
	shape   api.Shape
	blocks  map[int]bool
	entries []api.Entry
}

func judged(d *dev.Dev, root int) (*judge, error) {
	j := &judge{d: d, blocks: map[int]bool{}}
	if root == 0 {
		return j, nil
	}
	return j, j.visit(root, 1, "", "", root)
}

func (j *judge) note(block int) error {
	if j.blocks[block] {
		return fmt.Errorf("block %d stands there twice", block)
	}
	j.blocks[block] = true
	j.shape.Blocks++
	return nil
}

// visit: the keys below a block must be low or above, and (if high isn't "") below high.
func (j *judge) visit(block, depth int, low, high string, root int) error {
	if err := j.note(block); err != nil {
		return err
	}
	n, err := pageOf(j.d, block)
	if err != nil {
		return err
	}
	if block != root && page.Size(n) < 128 {
		return fmt.Errorf("block %d has size %d", block, page.Size(n))
	}
	keys := n.Keys
	for _, e := range n.Entries {
		keys = append(keys, e.Key)
	}
	for _, k := range keys {
		if k < low || high != "" && k >= high {
			return fmt.Errorf("block %d has the key %q, beyond %q .. %q", block, k, low, high)
		}
	}
	switch n.Kind {
	case leaf:
		return j.leaf(n, depth)
	case inner:
		j.shape.Inners++
		bounds := append(append([]string{low}, n.Keys...), high)
		for i, child := range n.Children {
			if err := j.visit(child, depth+1, bounds[i], bounds[i+1], root); err != nil {
				return err
			}
		}
		return nil
	}
	return fmt.Errorf("block %d is a chain's", block)
}

func (j *judge) leaf(n api.Node, depth int) error {
	if j.shape.Leaves > 0 && j.shape.Height != depth {
		return fmt.Errorf("leaves at the depths %d and %d", j.shape.Height, depth)
	}
	j.shape.Height = depth
	j.shape.Leaves++
	for i, e := range n.Entries {
		value := e.Value
		for block := n.Chains[i]; block != 0; {
			if err := j.note(block); err != nil {
				return err
			}
			link, err := pageOf(j.d, block)
			if err != nil || link.Kind != chain {
				return fmt.Errorf("block %d is no chain's: %v", block, err)
			}
			j.shape.Chains++
			value += link.Data
			block = link.Next
		}
		if (n.Chains[i] != 0) != (len(value) > api.MaxInline) {
			return fmt.Errorf("a value of %d bytes has the chain %d", len(value), n.Chains[i])
		}
		j.shape.Entries++
		j.entries = append(j.entries, api.Entry{Key: e.Key, Value: value})
	}
	return nil
}

// sound holds the pages of the world's tree, what it tells of them, and its space against the model: P10.2, P10.3.
func (w *world) sound(model map[string]string, others []int) {
	w.t.Helper()
	j, err := judged(w.d, w.x.Root())
	if err != nil {
		w.t.Fatalf("P10.2: %v", err)
	}
	if want := sorted(model); !slices.Equal(j.entries, want) {
		w.t.Fatalf("P10.2: the pages hold %d entries, not the %d", len(j.entries), len(want))
	}
	if shape := w.shape(); shape != j.shape {
		w.t.Fatalf("P10.2: Shape %v, want %v", shape, j.shape)
	}
	if h := j.shape.Height; h > 0 && 1<<(h-1) > j.shape.Leaves {
		w.t.Fatalf("P10.5: height %d, %d leaves", h, j.shape.Leaves)
	}
	blocks := slices.Sorted(maps.Keys(j.blocks))
	if told, errno := w.x.Blocks(); errno != api.OK || !slices.Equal(told, blocks) {
		w.t.Fatalf("P10.2: Blocks %v, %d, want %v", told, errno, blocks)
	}
	all := slices.Sorted(slices.Values(slices.Concat(blocks, others)))
	if taken := w.s.Taken(); !slices.Equal(taken, all) {
		w.t.Fatalf("P10.3: taken %v, want %v", taken, all)
	}
}

// same holds all that reads tells against the model: P10.1.
func (w *world) same(model map[string]string) {
	w.t.Helper()
	want := sorted(model)
	var all []api.Entry
	for k, v := range w.x.All() {
		all = append(all, api.Entry{Key: k, Value: v})
	}
	if !slices.Equal(all, want) || w.x.Err() != api.OK {
		w.t.Fatalf("All tells %d entries, %d, want %d", len(all), w.x.Err(), len(want))
	}
	if l, more, errno := w.x.Scan("", "", len(want)); !slices.Equal(l, want) || more || errno != api.OK {
		w.t.Fatalf("Scan tells %d entries, %v, %d, want %d", len(l), more, errno, len(want))
	}
	for _, e := range want {
		w.get(e.Key, e.Value, true, api.OK)
	}
}

// ranged: what Scan must answer.
func ranged(model map[string]string, from, to string, most int) ([]api.Entry, bool) {
	var l []api.Entry
	for _, e := range sorted(model) {
		if e.Key >= from && (to == "" || e.Key < to) {
			l = append(l, e)
		}
	}
	if len(l) > most {
		return l[:most], true
	}
	return l, false
}

func ks(n int) string { return strings.Repeat("k", n) }
func vs(n int) string { return strings.Repeat("v", n) }
