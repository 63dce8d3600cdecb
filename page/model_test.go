package page_test

import (
	"encoding/binary"
	"math/rand/v2"
	"slices"
	"strings"
	"testing"

	"bursar/api"
	"bursar/page"
)

// rises tells whether these are the keys of a page.
func rises(keys []string) bool {
	for i, key := range keys {
		if len(key) < 1 || len(key) > 120 || i > 0 && strings.Compare(keys[i-1], key) != -1 {
			return false
		}
	}
	return len(keys) > 0
}

func keysOf(entries []api.Entry) []string {
	var keys []string
	for _, entry := range entries {
		keys = append(keys, entry.Key)
	}
	return keys
}

// onlyNames tells whether no other field is filled.
func onlyNames(n api.Node, entries, keys, data bool) bool {
	return (entries || len(n.Entries)+len(n.Chains) == 0) && (keys || len(n.Keys)+len(n.Children) == 0) && (data || n.Next == 0 && n.Data == "")
}

// bodyOf tells by the chapter's words what stands from byte 8 on, and whether it is a page.
func bodyOf(n api.Node) ([]byte, bool) {
	low := binary.LittleEndian
	var b []byte
	switch n.Kind {
	case 1:
		if !onlyNames(n, true, false, false) || !rises(keysOf(n.Entries)) || len(n.Chains) != len(n.Entries) {
			return nil, false
		}
		for i, entry := range n.Entries {
			switch first := n.Chains[i]; {
			case first == 0 && len(entry.Value) <= 64:
				b = append(append(b, byte(len(entry.Key)), byte(len(entry.Value))), entry.Key+entry.Value...)
			case first > 0 && first < 4096 && entry.Value == "":
				b = low.AppendUint32(append(append(b, byte(len(entry.Key)), 255), entry.Key...), uint32(first))
			default:
				return nil, false
			}
		}
	case 2:
		if !onlyNames(n, false, true, false) || !rises(n.Keys) || len(n.Children) != len(n.Keys)+1 {
			return nil, false
		}
		for i, child := range n.Children {
			if child < 1 || child > 4095 || slices.Contains(n.Children[:i], child) {
				return nil, false
			}
			if i > 0 {
				b = append(append(b, byte(len(n.Keys[i-1]))), n.Keys[i-1]...)
			}
			b = low.AppendUint32(b, uint32(child))
		}
	case 3:
		if !onlyNames(n, false, false, true) || len(n.Data) < 1 || len(n.Data) > 500 || n.Next < 0 || n.Next > 4095 {
			return nil, false
		}
		b = append(low.AppendUint32(nil, uint32(n.Next)), n.Data...)
	default:
		return nil, false
	}
	return b, true
}

// holds asks of Size, Fits, Encode and Decode what the model tells of a node (P9.1, P9.2): whether it fits.
func holds(t *testing.T, n api.Node) bool {
	t.Helper()
	body, is := bodyOf(n)
	size := -1
	if is {
		size = 8 + len(body)
	}
	fits := is && size <= 512
	if got := page.Size(n); got != size || page.Fits(n) != fits {
		t.Fatalf("Size(%+v) = %d, want %d; Fits = %t, want %t", n, got, size, page.Fits(n), fits)
	}
	b, e := page.Encode(n)
	if !fits {
		if b != nil || e != api.ErrArg {
			t.Fatalf("Encode(%+v) = %x, %d", n, b, e)
		}
		return false
	}
	count := len(n.Entries) + len(n.Keys) + len(n.Data)
	want := block(string([]byte{0xb5, byte(n.Kind), byte(count), byte(count >> 8)}), string(body))
	if e != api.OK || !slices.Equal(b, want) {
		t.Fatalf("Encode(%+v) = %x, %d, want %x", n, b, e, want)
	}
	if got, e := page.Decode(b); e != api.OK || !same(got, n) {
		t.Fatalf("Decode(%x) = %+v, %d, want %+v", b, got, e, n)
	}
	return true
}

// text tells up to most bytes, mostly of few letters.
func text(random *rand.Rand, least, most int) string {
	b := make([]byte, least+random.IntN(most-least+1))
	wide := random.IntN(4) == 0
	for i := range b {
		b[i] = "\x00ab\xff"[random.IntN(4)]
		if wide {
			b[i] = byte(random.Uint32())
		}
	}
	return string(b)
}

// lengths tells a length's top: short ones mostly, so that pages have many parts.
func lengths(random *rand.Rand, top int) int { return []int{1, 3, 12, top}[random.IntN(4)] }

// someKeys tells keys that rise; they may be none or too many for a block.
func someKeys(random *rand.Rand) []string {
	var keys []string
	most := lengths(random, 120)
	for range random.IntN(1 + 600/(most+3)) {
		keys = append(keys, text(random, 1, most))
	}
	slices.Sort(keys)
	return slices.Compact(keys)
}

func someBlock(random *rand.Rand) int {
	return []int{1, 4095, 255, 256, 1 + random.IntN(4095)}[random.IntN(5)]
}

// somePage tells a page, or what is nearly one.
func somePage(random *rand.Rand) api.Node {
	n := api.Node{Kind: 1 + random.IntN(3)}
	switch n.Kind {
	case 1:
		top := lengths(random, 64)
		for _, key := range someKeys(random) {
			entry, first := api.Entry{Key: key}, 0
			if random.IntN(3) == 0 {
				first = someBlock(random)
			} else {
				entry.Value = text(random, 0, top)
			}
			n.Entries, n.Chains = append(n.Entries, entry), append(n.Chains, first)
		}
	case 2:
		n.Keys = someKeys(random)
		n.Children = random.Perm(4095)[:len(n.Keys)+1]
		for i := range n.Children {
			n.Children[i]++
		}
	case 3:
		n.Data = text(random, 1, lengths(random, 500))
		if random.IntN(2) == 0 {
			n.Next = someBlock(random)
		}
	}
	return n
}

// spoil changes one part of a node, for the worse or not.
func spoil(random *rand.Rand, n api.Node) api.Node {
	n = copied(n)
	number := []int{-1, 0, 1, 4095, 4096, 1 << 32, 9}[random.IntN(7)]
	long := strings.Repeat("z", []int{0, 1, 64, 65, 120, 121, 255, 256, 500, 501}[random.IntN(10)])
	switch at := random.IntN(1 << 20); random.IntN(8) {
	case 0:
		n.Kind = []int{-1, 0, 1, 2, 3, 4, 256 + n.Kind}[at%7]
	case 1:
		n.Next = number
	case 2:
		n.Data = long
	case 3:
		if len(n.Chains) > 0 {
			n.Chains[at%len(n.Chains)] = number
		} else {
			n.Chains = append(n.Chains, number)
		}
	case 4:
		if len(n.Children) > 0 {
			n.Children[at%len(n.Children)] = number
		} else {
			n.Children = append(n.Children, number)
		}
	case 5:
		if len(n.Keys) > 0 {
			n.Keys[at%len(n.Keys)] = long
		} else {
			n.Keys = append(n.Keys, long)
		}
	case 6:
		if len(n.Entries) > 0 {
			n.Entries[at%len(n.Entries)].Key = long
		} else {
			n.Entries = append(n.Entries, api.Entry{Key: long})
		}
	case 7:
		if len(n.Entries) > 0 {
			n.Entries[at%len(n.Entries)].Value = long
		} else {
			n.Entries = append(n.Entries, api.Entry{Value: long})
		}
	}
	return n
}

// TestNodes: random nodes, pages and what is nearly one, against the chapter's words (P9.1, P9.2).
func TestNodes(t *testing.T) {
	random := rand.New(rand.NewPCG(9, 1))
	fit, not := 0, 0
	for range 20000 {
		n := somePage(random)
		if random.IntN(2) == 0 {
			n = spoil(random, n)
		}
		if holds(t, n) {
			fit++
		} else {
			not++
		}
	}
	if fit < 5000 || not < 5000 {
		t.Errorf("only %d fit, %d don't", fit, not)
	}
}

// seen judges 512 bytes one after the other: the page whose they are, and whether there is one.
func seen(b []byte) (api.Node, bool) {
	low := binary.LittleEndian
	if b[0] != 0xb5 || !slices.Equal(summed(slices.Clone(b)), b) {
		return api.Node{}, false
	}
	n, count, at := api.Node{Kind: int(b[1])}, int(low.Uint16(b[2:])), 8
	part := func(length int) []byte {
		if at < 0 || length > 512-at {
			at = -1
			return make([]byte, length)
		}
		at += length
		return b[at-length : at]
	}
	if n.Kind == 2 {
		n.Children = append(n.Children, int(low.Uint32(part(4))))
	}
	for i := 0; i < count && at >= 0 && n.Kind < 3; i++ {
		length := int(part(1)[0])
		if n.Kind == 2 {
			n.Keys = append(n.Keys, string(part(length)))
			n.Children = append(n.Children, int(low.Uint32(part(4))))
			continue
		}
		value := int(part(1)[0])
		entry, first := api.Entry{Key: string(part(length))}, 0
		if value == 255 {
			if first = int(low.Uint32(part(4))); first == 0 {
				return api.Node{}, false
			}
		} else {
			entry.Value = string(part(value))
		}
		n.Entries, n.Chains = append(n.Entries, entry), append(n.Chains, first)
	}
	if n.Kind == 3 {
		n.Next = int(low.Uint32(part(4)))
		n.Data = string(part(count))
	}
	if at < 0 || strings.Trim(string(b[at:]), "\x00") != "" {
		return api.Node{}, false
	}
	_, is := bodyOf(n)
	return n, is
}

// judged holds Decode of 512 bytes against what is seen in them, and Encode of the page against the bytes (P9.1, P9.2): whether it is one.
func judged(t *testing.T, b []byte) bool {
	t.Helper()
	want, is := seen(b)
	n, e := page.Decode(b)
	if !is {
		if e != api.ErrBad || !same(n, api.Node{}) {
			t.Fatalf("Decode(%x) = %+v, %d", b, n, e)
		}
		return false
	}
	if e != api.OK || !same(n, want) {
		t.Fatalf("Decode(%x) = %+v, %d, want %+v", b, n, e, want)
	}
	if again, e := page.Encode(n); e != api.OK || !slices.Equal(again, b) {
		t.Fatalf("Encode(%+v) = %x, %d, want %x", n, again, e, b)
	}
	return true
}

// someBytes tells a page's block with some bytes changed, mostly with the right sum.
func someBytes(random *rand.Rand) []byte {
	n := somePage(random)
	b, e := page.Encode(n)
	for e != api.OK {
		n = somePage(random)
		b, e = page.Encode(n)
	}
	used := page.Size(n)
	for range random.IntN(3) {
		at := []int{1, 2, 3, 8, 9, 8 + random.IntN(used-8), min(511, used), random.IntN(512)}[random.IntN(8)]
		switch random.IntN(3) {
		case 0:
			b[at] = byte(random.Uint32())
		case 1:
			b[at]++
		case 2:
			b[at] = []byte{0, 1, 2, 3, 120, 121, 64, 65, 254, 255}[random.IntN(10)]
		}
	}
	if random.IntN(16) > 0 {
		summed(b)
	}
	return b
}

// TestBytes: random blocks, pages' and nearly pages', against the chapter's words (P9.1, P9.2).
func TestBytes(t *testing.T) {
	random := rand.New(rand.NewPCG(9, 2))
	pages, none := 0, 0
	for range 40000 {
		if judged(t, someBytes(random)) {
			pages++
		} else {
			none++
		}
	}
	if pages < 5000 || none < 5000 {
		t.Errorf("only %d pages, %d others", pages, none)
	}
}

// TestNoise: bytes of no order at all, a page's head ahead of them (P9.1).
func TestNoise(t *testing.T) {
	random := rand.New(rand.NewPCG(9, 3))
	for range 20000 {
		b := make([]byte, 512)
		for i := range random.IntN(513) {
			b[i] = byte(random.Uint32())
		}
		if random.IntN(8) > 0 {
			copy(b, []byte{0xb5, byte(1 + random.IntN(3)), byte(random.IntN(6)), 0})
		}
		judged(t, summed(b))
	}
}

// TestTold: no burst within one of the three parts leaves a page's bytes a page's (P9.3).
func TestTold(t *testing.T) {
	random := rand.New(rand.NewPCG(9, 4))
	for _, n := range []api.Node{
		leaf("k", "vw"), chained(300, "k", ""), inner(texts("m"), 5, 9), piece(7, "xyz"), piece(0, strings.Repeat("\x00", 500)),
	} {
		whole, e := page.Encode(n)
		if e != api.OK {
			t.Fatalf("Encode: %d", e)
		}
		for _, part := range [][2]int{{0, 32}, {32, 64}, {64, 4096}} {
			for first := part[0]; first < part[1]; first++ {
				for range 4 {
					width := 1 + random.IntN(min(32, part[1]-first))
					bad(t, "a burst", burst(random, whole, first, width))
				}
				bad(t, "a bit", burst(random, whole, first, 1))
			}
		}
	}
}

// burst changes the first and the last of so many bits, and some between.
func burst(random *rand.Rand, b []byte, first, width int) []byte {
	b = slices.Clone(b)
	for i := range width {
		if bit := first + i; i == 0 || i == width-1 || random.IntN(2) == 0 {
			b[bit/8] ^= 1 << (bit % 8)
		}
	}
	return b
}

// TestPieces: the chains of values of all lengths (P9.4), against the chapter's words (P9.1).
func TestPieces(t *testing.T) {
	random := rand.New(rand.NewPCG(9, 5))
	long := text(random, 8192, 8192)
	for length := 0; length <= 8192; length += 1 + random.IntN(3) {
		value := long[:length]
		blocks := random.Perm(4095)[:page.Links(value)]
		for i := range blocks {
			blocks[i]++
		}
		l, e := page.Chain(value, blocks)
		if e != api.OK || length <= 64 && len(l) > 0 {
			t.Fatalf("Chain of %d bytes: %d pages, %d", length, len(l), e)
		}
		if length > 64 {
			pieces(t, value, blocks, l)
		}
	}
}

// pieces asks that these pages, on these blocks, are a value's chain.
func pieces(t *testing.T, value string, blocks []int, l []api.Node) {
	t.Helper()
	together := ""
	for i, n := range l {
		if i < len(l)-1 && len(n.Data) != 500 || n.Kind != 3 || !page.Fits(n) {
			t.Fatalf("page %d of %d bytes' chain: %+v", i, len(value), n)
		}
		if next := append(slices.Clone(blocks), 0)[i+1]; n.Next != next {
			t.Fatalf("page %d of %d bytes' chain has Next %d, want %d", i, len(value), n.Next, next)
		}
		together += n.Data
	}
	if together != value || len(l) != len(blocks) {
		t.Fatalf("the chain of %d bytes has %d", len(value), len(together))
	}
}
