package page_test

import (
	"encoding/binary"
	"hash/crc32"
	"math"
	"slices"
	"strings"
	"testing"

	"bursar/api"
	"bursar/page"
)

// leaf makes a leaf of keys and values by turns, none with a chain.
func leaf(texts ...string) api.Node {
	n := api.Node{Kind: 1}
	for i := 0; i < len(texts); i += 2 {
		n.Entries = append(n.Entries, api.Entry{Key: texts[i], Value: texts[i+1]})
		n.Chains = append(n.Chains, 0)
	}
	return n
}

// chained makes a leaf of one entry whose chain begins at a block.
func chained(first int, key, value string) api.Node {
	return api.Node{Kind: 1, Entries: []api.Entry{{Key: key, Value: value}}, Chains: []int{first}}
}

func inner(keys []string, children ...int) api.Node {
	return api.Node{Kind: 2, Keys: keys, Children: children}
}

func piece(next int, data string) api.Node { return api.Node{Kind: 3, Next: next, Data: data} }

func texts(l ...string) []string { return l }

func same(a, b api.Node) bool {
	return a.Kind == b.Kind && a.Next == b.Next && a.Data == b.Data &&
		slices.Equal(a.Entries, b.Entries) && slices.Equal(a.Chains, b.Chains) &&
		slices.Equal(a.Keys, b.Keys) && slices.Equal(a.Children, b.Children)
}

// copied tells a node that shares no list with n.
func copied(n api.Node) api.Node {
	n.Entries, n.Chains = slices.Clone(n.Entries), slices.Clone(n.Chains)
	n.Keys, n.Children = slices.Clone(n.Keys), slices.Clone(n.Children)
	return n
}

var castagnoli = crc32.MakeTable(crc32.Castagnoli)

// summed gives a block the right sum.
func summed(b []byte) []byte {
	s := crc32.Update(crc32.Checksum(b[:4], castagnoli), castagnoli, b[8:])
	binary.LittleEndian.PutUint32(b[4:], s)
	return b
}

// block tells 512 bytes with this head and this body, 0 behind it, and the right sum.
func block(head, body string) []byte {
	b := make([]byte, 512)
	copy(b, head)
	copy(b[8:], body)
	return summed(b)
}

// encodes asks that a node is a page of a size that fits, with these bytes, there and back (P9.1, P9.2).
func encodes(t *testing.T, n api.Node, size int, want []byte) {
	t.Helper()
	if got := page.Size(n); got != size || !page.Fits(n) {
		t.Errorf("Size(%+v) = %d, want %d; Fits: %t", n, got, size, page.Fits(n))
	}
	if b, e := page.Encode(n); e != api.OK || !slices.Equal(b, want) {
		t.Errorf("Encode(%+v) = %x, %d, want %x", n, b, e, want)
	}
	if got, e := page.Decode(want); e != api.OK || !same(got, n) {
		t.Errorf("Decode(%x) = %+v, %d, want %+v", want, got, e, n)
	}
}

// isNone asks that a node is no page (P9.1).
func isNone(t *testing.T, why string, n api.Node) {
	t.Helper()
	if size := page.Size(n); size != -1 || page.Fits(n) {
		t.Errorf("%s: Size = %d, Fits = %t", why, size, page.Fits(n))
	}
	if b, e := page.Encode(n); b != nil || e != api.ErrArg {
		t.Errorf("%s: Encode = %x, %d", why, b, e)
	}
}

// tooBig asks that a node is a page of a size that doesn't fit (P9.1).
func tooBig(t *testing.T, n api.Node, size int) {
	t.Helper()
	if got := page.Size(n); got != size || page.Fits(n) {
		t.Errorf("Size = %d, want %d; Fits = %t", got, size, page.Fits(n))
	}
	if b, e := page.Encode(n); b != nil || e != api.ErrArg {
		t.Errorf("Encode of a page of size %d = %x, %d", size, b, e)
	}
}

// bad asks that 512 bytes are no page's (P9.1).
func bad(t *testing.T, why string, b []byte) {
	t.Helper()
	if n, e := page.Decode(b); e != api.ErrBad || !same(n, api.Node{}) {
		t.Errorf("%s: Decode = %+v, %d", why, n, e)
	}
}

// TestExamples: the chapter's examples 1 to 3 (P9.1, P9.2).
func TestExamples(t *testing.T) {
	encodes(t, leaf("k", "vw"), 13, block("\xb5\x01\x01\x00", "\x01\x02kvw"))
	encodes(t, chained(300, "k", ""), 15, block("\xb5\x01\x01\x00", "\x01\xffk\x2c\x01\x00\x00"))
	encodes(t, inner(texts("m"), 5, 9), 18, block("\xb5\x02\x01\x00", "\x05\x00\x00\x00\x01m\x09\x00\x00\x00"))
	encodes(t, piece(7, "xyz"), 15, block("\xb5\x03\x03\x00", "\x07\x00\x00\x00xyz"))
}

// TestEdges: the least and the greatest of each part of a page (P9.1, P9.2).
func TestEdges(t *testing.T) {
	key, value := strings.Repeat("\xff", 120), strings.Repeat("\x00", 64)
	encodes(t, leaf("\x00", ""), 11, block("\xb5\x01\x01\x00", "\x01\x00\x00"))
	encodes(t, leaf(key, value), 8+2+120+64, block("\xb5\x01\x01\x00", "\x78\x40"+key+value))
	encodes(t, chained(1, "k", ""), 15, block("\xb5\x01\x01\x00", "\x01\xffk\x01\x00\x00\x00"))
	encodes(t, chained(4095, "k", ""), 15, block("\xb5\x01\x01\x00", "\x01\xffk\xff\x0f\x00\x00"))
	encodes(t, leaf("a", "", "a\x00", "1", "ab", ""), 20, block("\xb5\x01\x03\x00", "\x01\x00a\x02\x01a\x001\x02\x00ab"))
	encodes(t, inner(texts("\x00"), 4095, 1), 18, block("\xb5\x02\x01\x00", "\xff\x0f\x00\x00\x01\x00\x01\x00\x00\x00"))
	encodes(t, inner(texts(key), 256, 255), 137, block("\xb5\x02\x01\x00", "\x00\x01\x00\x00\x78"+key+"\xff\x00\x00\x00"))
	encodes(t, piece(0, "\x00"), 13, block("\xb5\x03\x01\x00", "\x00\x00\x00\x00\x00"))
	full := strings.Repeat("d", 500)
	encodes(t, piece(4095, full), 512, block("\xb5\x03\xf4\x01", "\xff\x0f\x00\x00"+full))
}

// TestChainsAlike: two entries may name one chain; only children are asked to be unlike (P9.1).
func TestChainsAlike(t *testing.T) {
	n := leaf("a", "", "b", "", "c", "v")
	n.Chains = []int{9, 9, 0}
	encodes(t, n, 26, block("\xb5\x01\x03\x00", "\x01\xffa\x09\x00\x00\x00\x01\xffb\x09\x00\x00\x00\x01\x01cv"))
}

// TestFull: pages of 512 bytes fit, of 513 they don't (P9.1, and the chapter's example 5).
func TestFull(t *testing.T) {
	k := func(c string) string { return strings.Repeat(c, 120) }
	v := strings.Repeat("v", 64)
	tooBig(t, leaf(k("a"), v, k("b"), v, k("c"), v), 566)
	two := leaf(k("a"), v, k("b"), v)
	if size := page.Size(two); size != 380 || !page.Fits(two) {
		t.Errorf("two entries: size %d", size)
	}
	last := "\x78\x0a" + k("c") + "1234567890"
	encodes(t, leaf(k("a"), v, k("b"), v, k("c"), "1234567890"), 512,
		block("\xb5\x01\x03\x00", "\x78\x40"+k("a")+v+"\x78\x40"+k("b")+v+last))
	tooBig(t, leaf(k("a"), v, k("b"), v, k("c"), "12345678901"), 513)
	entryOf := func(c string) string { return "\x78" + k(c) + c + "\x00\x00\x00" }
	encodes(t, inner(texts(k("a"), k("b"), k("c"), k("d")), 1, 97, 98, 99, 100), 512,
		block("\xb5\x02\x04\x00", "\x01\x00\x00\x00"+entryOf("a")+entryOf("b")+entryOf("c")+entryOf("d")))
	tooBig(t, inner(texts(k("a"), k("b"), k("c"), "d", "e"+k("f")[:114]), 1, 97, 98, 99, 100, 101), 513)
}

// TestJustBeyond: chains count with 4 bytes, however long the key (P9.1).
func TestJustBeyond(t *testing.T) {
	n := api.Node{Kind: 1}
	for i := range 72 {
		n.Entries = append(n.Entries, api.Entry{Key: string(rune('!' + i))})
		n.Chains = append(n.Chains, 4095-i)
	}
	if size := page.Size(n); size != 512 || !page.Fits(n) {
		t.Errorf("72 chains: size %d", size)
	}
	n.Entries[71].Key += "x"
	tooBig(t, n, 513)
	n.Entries[71].Key = "\x7f"
	n.Chains[70], n.Entries[70].Value = 0, "four!"
	tooBig(t, n, 513)
	n.Entries[70].Value = "four"
	if size := page.Size(n); size != 512 || !page.Fits(n) {
		t.Errorf("71 chains and a value: size %d", size)
	}
}

// TestNone: what is no page, of each kind; among it the chapter's example 4 (P9.1).
func TestNone(t *testing.T) {
	for _, kind := range []int{0, 4, -1, 255, 256, 257, 258, 259, math.MaxInt, math.MinInt} {
		isNone(t, "no kind", api.Node{Kind: kind})
		for _, n := range []api.Node{leaf("k", "v"), inner(texts("m"), 5, 9), piece(7, "xyz")} {
			n.Kind = kind
			isNone(t, "a page's fields, no kind", n)
		}
	}
	isNone(t, "a leaf without entries", leaf())
	isNone(t, "falling keys", leaf("b", "", "a", ""))
	isNone(t, "keys alike", leaf("a", "", "a", ""))
	isNone(t, "keys alike at the end", leaf("a", "", "b", "", "c", "", "c", ""))
	isNone(t, "a longer key ahead", leaf("ab", "", "a", ""))
	isNone(t, "bytes above 7f fall", leaf("\xff", "", "\x7f", ""))
	isNone(t, "a key without bytes", leaf("", "v"))
	isNone(t, "a key without bytes behind another", leaf("a", "v", "", "v"))
	isNone(t, "a key of 121 bytes", leaf(strings.Repeat("k", 121), ""))
	isNone(t, "a key of 376 bytes", leaf(strings.Repeat("k", 376), ""))
	isNone(t, "a value of 65 bytes", leaf("a", strings.Repeat("v", 65)))
	isNone(t, "a value of 255 bytes", leaf("a", strings.Repeat("v", 255)))
	isNone(t, "a chain and a value", chained(9, "a", "v"))
	for _, first := range []int{-1, 4096, 4097, 1 << 32, 1<<32 + 9, math.MaxInt, math.MinInt} {
		isNone(t, "a chain at no block", chained(first, "a", ""))
	}
	isNone(t, "one child", inner(texts("m"), 5))
	isNone(t, "three children", inner(texts("m"), 5, 6, 7))
	isNone(t, "no keys", inner(nil, 5))
	isNone(t, "nothing at all", inner(nil))
	isNone(t, "children alike", inner(texts("m"), 5, 5))
	isNone(t, "children alike, far apart", inner(texts("m", "n"), 5, 6, 5))
	isNone(t, "keys alike", inner(texts("m", "m"), 5, 6, 7))
	isNone(t, "falling keys", inner(texts("m", "n", "a"), 5, 6, 7, 8))
	isNone(t, "a key without bytes", inner(texts(""), 5, 6))
	isNone(t, "a key of 121 bytes", inner(texts(strings.Repeat("k", 121)), 5, 6))
	for _, child := range []int{0, -1, 4096, 1<<32 + 5, math.MaxInt, math.MinInt} {
		isNone(t, "a first child at no block", inner(texts("m"), child, 9))
		isNone(t, "a last child at no block", inner(texts("m"), 9, child))
	}
	isNone(t, "a chain without data", piece(7, ""))
	isNone(t, "a chain of 501 bytes", piece(7, strings.Repeat("d", 501)))
	for _, next := range []int{-1, 4096, 1 << 32, math.MaxInt, math.MinInt} {
		isNone(t, "a Next at no block", piece(next, "d"))
	}
}

// TestForeignFields: a field that its kind doesn't name makes a page none (P9.1).
func TestForeignFields(t *testing.T) {
	entries := func(n api.Node) api.Node { n.Entries = []api.Entry{{Key: "k"}}; return n }
	bare := func(n api.Node) api.Node { n.Entries = []api.Entry{{}}; return n }
	chains := func(n api.Node) api.Node { n.Chains = []int{0}; return n }
	keys := func(n api.Node) api.Node { n.Keys = []string{""}; return n }
	children := func(n api.Node) api.Node { n.Children = []int{0}; return n }
	next := func(n api.Node) api.Node { n.Next = 1; return n }
	data := func(n api.Node) api.Node { n.Data = "\x00"; return n }
	for _, c := range []struct {
		n      api.Node
		spoils []func(api.Node) api.Node
	}{
		{leaf("k", "v"), []func(api.Node) api.Node{keys, children, next, data}},
		{chained(300, "k", ""), []func(api.Node) api.Node{keys, children, next, data}},
		{inner(texts("m"), 5, 9), []func(api.Node) api.Node{entries, bare, chains, next, data}},
		{piece(7, "xyz"), []func(api.Node) api.Node{entries, bare, chains, keys, children}},
		{piece(0, "xyz"), []func(api.Node) api.Node{entries, bare, chains, keys, children}},
	} {
		if !page.Fits(c.n) {
			t.Errorf("%+v doesn't fit", c.n)
		}
		for i, spoil := range c.spoils {
			n := spoil(c.n)
			isNone(t, "kind "+string(rune('0'+n.Kind))+", foreign field "+string(rune('0'+i)), n)
		}
	}
	n := leaf("a", "1", "b", "2")
	for _, chains := range [][]int{nil, {0}, {0, 0, 0}} {
		n.Chains = chains
		isNone(t, "not one number each", n)
	}
}

// TestEmptyLists: a list without elements is as good as none (P9.1).
func TestEmptyLists(t *testing.T) {
	n := leaf("k", "v")
	n.Keys, n.Children = []string{}, make([]int, 0, 4)
	encodes(t, n, 12, block("\xb5\x01\x01\x00", "\x01\x01kv"))
	n = inner(texts("m"), 5, 9)
	n.Entries, n.Chains = []api.Entry{}, []int{}
	encodes(t, n, 18, block("\xb5\x02\x01\x00", "\x05\x00\x00\x00\x01m\x09\x00\x00\x00"))
	n = piece(7, "xyz")
	n.Entries, n.Chains, n.Keys, n.Children = []api.Entry{}, []int{}, []string{}, []int{}
	encodes(t, n, 15, block("\xb5\x03\x03\x00", "\x07\x00\x00\x00xyz"))
}

// TestGreat: pages far above a block have their size; children can't be more than there are blocks (P9.1).
func TestGreat(t *testing.T) {
	n := api.Node{Kind: 1}
	for i := range 70000 {
		n.Entries = append(n.Entries, api.Entry{Key: string(binary.BigEndian.AppendUint32(nil, uint32(i))), Value: "v"})
		n.Chains = append(n.Chains, 0)
	}
	tooBig(t, n, 8+70000*7)
	n = inner(nil, 1)
	for i := 2; i < 4096; i++ {
		n.Keys = append(n.Keys, string(binary.BigEndian.AppendUint16(nil, uint16(i))))
		n.Children = append(n.Children, i)
	}
	tooBig(t, n, 12+4094*7)
	n.Keys, n.Children = append(n.Keys, "\xff"), append(n.Children, 4095)
	isNone(t, "a child more than there are blocks", n)
}

// TestDecodeLength: the chapter's example 7 (P9.1).
func TestDecodeLength(t *testing.T) {
	whole := block("\xb5\x01\x01\x00", "\x01\x02kvw")
	for _, b := range [][]byte{nil, {}, whole[:1], whole[:511], append(slices.Clone(whole), 0), make([]byte, 1024)} {
		if n, e := page.Decode(b); e != api.ErrSize || !same(n, api.Node{}) {
			t.Errorf("Decode of %d bytes = %+v, %d", len(b), n, e)
		}
	}
	bad(t, "all 0", make([]byte, 512))
	bad(t, "all 0 with its sum", block("", ""))
}

// TestNoPagesBytes: blocks with the right sum that no page has (P9.1, P9.2).
func TestNoPagesBytes(t *testing.T) {
	for why, b := range map[string][]byte{
		"another first byte":           block("\xb7\x01\x01\x00", "\x01\x02kvw"),
		"kind 0":                       block("\xb5\x00\x01\x00", "\x01\x02kvw"),
		"kind 4":                       block("\xb5\x04\x01\x00", "\x01\x02kvw"),
		"no entries":                   block("\xb5\x01\x00\x00", ""),
		"an entry behind the count":    block("\xb5\x01\x01\x00", "\x01\x02kvw\x01\x00l"),
		"fewer entries than the count": block("\xb5\x01\x02\x00", "\x01\x02kvw"),
		"a count of 257":               block("\xb5\x01\x01\x01", "\x01\x02kvw"),
		"a count of 65535":             block("\xb5\x01\xff\xff", strings.Repeat("\x01\x00k", 168)),
		"a key without bytes":          block("\xb5\x01\x01\x00", "\x00\x01v"),
		"a key of 121 bytes":           block("\xb5\x01\x01\x00", "\x79\x00"+strings.Repeat("k", 121)),
		"a value of 65 bytes":          block("\xb5\x01\x01\x00", "\x01\x41k"+strings.Repeat("v", 65)),
		"a value of 254 bytes":         block("\xb5\x01\x01\x00", "\x01\xfek"+strings.Repeat("v", 254)),
		"keys alike":                   block("\xb5\x01\x02\x00", "\x01\x00k\x01\x00k"),
		"falling keys":                 block("\xb5\x01\x02\x00", "\x01\x00l\x01\x00k"),
		"a chain at 0":                 block("\xb5\x01\x01\x00", "\x01\xffk\x00\x00\x00\x00"),
		"a chain at 4096":              block("\xb5\x01\x01\x00", "\x01\xffk\x00\x10\x00\x00"),
		"a chain at a great block":     block("\xb5\x01\x01\x00", "\x01\xffk\x01\x00\x00\x80"),
		"bytes behind the last entry":  block("\xb5\x01\x01\x00", "\x01\x02kvw\x00\x01"),
		"no keys":                      block("\xb5\x02\x00\x00", "\x05\x00\x00\x00"),
		"a first child 0":              block("\xb5\x02\x01\x00", "\x00\x00\x00\x00\x01m\x09\x00\x00\x00"),
		"a last child 0":               block("\xb5\x02\x01\x00", "\x05\x00\x00\x00\x01m\x00\x00\x00\x00"),
		"a child at 4096":              block("\xb5\x02\x01\x00", "\x05\x00\x00\x00\x01m\x00\x10\x00\x00"),
		"children alike":               block("\xb5\x02\x01\x00", "\x05\x00\x00\x00\x01m\x05\x00\x00\x00"),
		"an inner key without bytes":   block("\xb5\x02\x01\x00", "\x05\x00\x00\x00\x00\x09\x00\x00\x00"),
		"inner keys that fall":         block("\xb5\x02\x02\x00", "\x05\x00\x00\x00\x01m\x09\x00\x00\x00\x01a\x07\x00\x00\x00"),
		"a chain page without data":    block("\xb5\x03\x00\x00", "\x07\x00\x00\x00"),
		"501 bytes of data":            block("\xb5\x03\xf5\x01", "\x07\x00\x00\x00"+strings.Repeat("d", 500)),
		"65535 bytes of data":          block("\xb5\x03\xff\xff", "\x07\x00\x00\x00"+strings.Repeat("d", 500)),
		"data behind the count":        block("\xb5\x03\x02\x00", "\x07\x00\x00\x00xyz"),
		"a Next of 4096":               block("\xb5\x03\x03\x00", "\x00\x10\x00\x00xyz"),
		"a great Next":                 block("\xb5\x03\x03\x00", "\x07\x00\x00\xffxyz"),
		"a last byte that isn't 0":     block("\xb5\x03\x03\x00", "\x07\x00\x00\x00xyz"+strings.Repeat("\x00", 496)+"\x01"),
	} {
		bad(t, why, b)
	}
}

// TestCutOff: entries, keys and blocks that the block's end cuts off (P9.1).
func TestCutOff(t *testing.T) {
	filled := "" // 462 of the body's 504 bytes
	for i := range 7 {
		filled += "\x02\x3e" + string([]byte{1, byte(i)}) + strings.Repeat("v", 62)
	}
	exact := block("\xb5\x01\x08\x00", filled+"\x28\x00"+strings.Repeat("k", 40))
	if n, e := page.Decode(exact); e != api.OK || page.Size(n) != 512 {
		t.Errorf("Decode of a full page = %+v, %d", n, e)
	}
	bad(t, "a byte behind the last entry", block("\xb5\x01\x08\x00", filled+"\x27\x00"+strings.Repeat("k", 39)+"\x01"))
	for _, last := range []string{
		"\x29\x00" + strings.Repeat("k", 40), "\x01\x28" + strings.Repeat("k", 40), "\x25\xff" + strings.Repeat("k", 37) + "\x09\x00\x00",
	} {
		bad(t, "cut off", block("\xb5\x01\x08\x00", filled+last))
	}
	cut := filled + "\x01\x25k" + strings.Repeat("v", 37) // two bytes are left
	for _, last := range []string{"\x01\x00", "\x01\xff", "\x02", ""} {
		bad(t, "cut off behind the lengths", block("\xb5\x01\x09\x00", cut+last))
	}
}

// TestLinks: the chapter's example 6, and every length around the edges (P9.1).
func TestLinks(t *testing.T) {
	for n, want := range map[int]int{
		0: 0, 1: 0, 64: 0, 65: 1, 499: 1, 500: 1, 501: 2, 1000: 2, 1001: 3, 8000: 16, 8001: 17, 8192: 17, 8193: 17, 8500: 17, 8501: 18, 1 << 20: 2098,
	} {
		if got := page.Links(strings.Repeat("x", n)); got != want {
			t.Errorf("Links of %d bytes = %d, want %d", n, got, want)
		}
	}
}

// TestChainExamples: the chapter's example 6 (P9.1, P9.4).
func TestChainExamples(t *testing.T) {
	value := strings.Repeat("x", 500) + "y"
	l, e := page.Chain(value, []int{7, 9})
	if e != api.OK || len(l) != 2 || !same(l[0], piece(9, value[:500])) || !same(l[1], piece(0, "y")) {
		t.Errorf("Chain = %+v, %d", l, e)
	}
	if l, e := page.Chain("", nil); len(l) != 0 || e != api.OK {
		t.Errorf("Chain of nothing = %+v, %d", l, e)
	}
	if l, e := page.Chain(value[:64], []int{}); len(l) != 0 || e != api.OK {
		t.Errorf("Chain of 64 bytes = %+v, %d", l, e)
	}
	if l, e := page.Chain(value[:65], []int{4095}); len(l) != 1 || e != api.OK || !same(l[0], piece(0, value[:65])) {
		t.Errorf("Chain of 65 bytes = %+v, %d", l, e)
	}
}

// TestChainRefusals: a value that is too long is told ahead of wrong blocks (P9.1).
func TestChainRefusals(t *testing.T) {
	refused := func(length int, blocks []int, want api.Errno) {
		t.Helper()
		if l, e := page.Chain(strings.Repeat("x", length), blocks); l != nil || e != want {
			t.Errorf("Chain of %d bytes on %v = %+v, %d, want %d", length, blocks, l, e, want)
		}
	}
	wrong := [][]int{{7}, nil, {7, 7}, {7, 0}, {0, 7}, {7, -1}, {7, 4096}, {4096, 7}, {7, math.MaxInt}, {math.MinInt, 7}, {7, 9, 11}, {7, 9, 7}}
	for _, blocks := range wrong {
		refused(501, blocks, api.ErrArg)
		refused(8193, blocks, api.ErrLong)
		refused(1<<20, blocks, api.ErrLong)
	}
	refused(0, []int{7}, api.ErrArg)
	refused(64, []int{7}, api.ErrArg)
	refused(65, nil, api.ErrArg)
	refused(500, []int{7, 9}, api.ErrArg)
	refused(8193, upTo(17), api.ErrLong)
	refused(8192, upTo(16), api.ErrArg)
	refused(8192, upTo(18), api.ErrArg)
}

// upTo tells the blocks 1 to n.
func upTo(n int) []int {
	var blocks []int
	for i := range n {
		blocks = append(blocks, i+1)
	}
	return blocks
}
