package page_test

import (
	"slices"
	"strings"
	"testing"

	"bursar/api"
	"bursar/page"
)

// roomy tells a node whose lists have spare room, filled with what must stay there.
func roomy(n api.Node) api.Node {
	n = copied(n)
	n.Entries = append(n.Entries, api.Entry{Key: "spare", Value: "spare"})[:len(n.Entries)]
	n.Chains = append(n.Chains, 77)[:len(n.Chains)]
	n.Keys = append(n.Keys, "spare")[:len(n.Keys)]
	n.Children = append(n.Children, 77)[:len(n.Children)]
	return n
}

// whole tells a node with its lists' spare room.
func whole(n api.Node) api.Node {
	n.Entries, n.Chains = n.Entries[:cap(n.Entries)], n.Chains[:cap(n.Chains)]
	n.Keys, n.Children = n.Keys[:cap(n.Keys)], n.Children[:cap(n.Children)]
	return n
}

// scribble writes into all lists of a node, and into their spare room.
func scribble(n api.Node) {
	n = whole(n)
	for i := range n.Entries {
		n.Entries[i] = api.Entry{Key: "scribbled", Value: "scribbled"}
	}
	for i := range n.Chains {
		n.Chains[i] = -5
	}
	for i := range n.Keys {
		n.Keys[i] = "scribbled"
	}
	for i := range n.Children {
		n.Children[i] = -6
	}
}

func sharers() []api.Node {
	n := leaf("a", "1", "b", "", "c", "3")
	n.Chains[1] = 9
	return []api.Node{n, inner(texts("m", "n"), 5, 9, 7), piece(7, "xyz"), leaf("b", "", "a", "")}
}

// TestNodeIsLeft: a node that is handed in is neither changed nor kept (P9.5).
func TestNodeIsLeft(t *testing.T) {
	for _, n := range sharers() {
		given := roomy(n)
		before := copied(whole(given))
		page.Size(given)
		page.Fits(given)
		b, _ := page.Encode(given)
		if !same(whole(given), before) {
			t.Errorf("%+v became %+v", before, whole(given))
		}
		wrote := slices.Clone(b)
		scribble(given)
		if !slices.Equal(b, wrote) {
			t.Errorf("the bytes of %+v hang on it", n)
		}
	}
}

// TestBytesAreNew: what Encode answered is another's each time (P9.5).
func TestBytesAreNew(t *testing.T) {
	for _, n := range sharers()[:3] {
		first, _ := page.Encode(n)
		second, _ := page.Encode(n)
		wrote := slices.Clone(second)
		clear(first[:cap(first)])
		third, _ := page.Encode(n)
		if !slices.Equal(second, wrote) || !slices.Equal(third, wrote) {
			t.Errorf("the bytes of %+v are shared", n)
		}
	}
}

// TestDecodedIsNew: bytes that are handed in are neither changed nor kept, and what Decode answers is new, each list by itself (P9.5).
func TestDecodedIsNew(t *testing.T) {
	for _, want := range sharers()[:3] {
		b, _ := page.Encode(want)
		given := append(slices.Clone(b), 1, 2, 3)
		n, e := page.Decode(given[:512])
		if e != api.OK || !slices.Equal(given, append(slices.Clone(b), 1, 2, 3)) {
			t.Errorf("Decode: %d, and the bytes are %x", e, given)
		}
		clear(given)
		if !same(n, want) {
			t.Errorf("the page hangs on its bytes: %+v, want %+v", n, want)
		}
		other, _ := page.Decode(b)
		scribble(other)
		if !same(n, want) {
			t.Errorf("two pages share: %+v, want %+v", n, want)
		}
		n.Chains = append(n.Chains, 1)
		n.Children = append(n.Children, 1)
		clear(n.Chains)
		if len(n.Children) > 1 && !slices.Equal(n.Children[:len(want.Children)], want.Children) {
			t.Errorf("Chains and Children share: %v", n.Children)
		}
	}
}

// TestChainIsNew: blocks that are handed in are neither changed nor kept; each list of pages is new (P9.5).
func TestChainIsNew(t *testing.T) {
	value := strings.Repeat("v", 1001)
	blocks := []int{7, 9, 11, 13}
	l, e := page.Chain(value, blocks[:3])
	if e != api.OK || !slices.Equal(blocks, []int{7, 9, 11, 13}) {
		t.Fatalf("Chain: %d, and the blocks are %v", e, blocks)
	}
	clear(blocks)
	if l[0].Next != 9 || l[1].Next != 11 || l[2].Next != 0 {
		t.Errorf("the chain hangs on its blocks: %+v", l)
	}
	other, _ := page.Chain(value, []int{7, 9, 11})
	clear(other[:cap(other)])
	if l[0].Next != 9 || l[0].Data != value[:500] {
		t.Errorf("two chains share: %+v", l)
	}
}
