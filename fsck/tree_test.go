package fsck_test

import (
	"encoding/binary"
	"math"
	"slices"
	"testing"

	"bursar/api"
	"bursar/dev"
	"bursar/fsck"
	"bursar/page"
	"bursar/sum"
)

// made: pages by hand below the root 12 of a superblock that counts so many entries; how many are found, and what is wrong.
type made struct {
	what         string
	count, found int64
	pages        map[int]api.Node
	want         []api.Problem
}

func (m made) lay(t *testing.T) *dev.Dev {
	t.Helper()
	d := device(t, 64)
	for block, n := range m.pages {
		lay(t, d, block, n)
	}
	return d
}

func (m made) ask(t *testing.T) {
	t.Helper()
	d, s := m.lay(t), super(12, m.count)
	l, n := tree(t, d, s)
	same(t, m.what, l, m.want)
	if n != m.found {
		t.Errorf("%s: %d entries, want %d", m.what, n, m.found)
	}
	put(t, d, s)
	// These entries are no records of the domain's, which is told where the tree is right.
	l = check(t, d)
	if len(m.want) > 0 {
		same(t, m.what+", by Check", l, m.want)
	} else if len(l) == 0 || l[0] != (api.Problem{Rule: 22, Block: 1}) {
		t.Errorf("%s, by Check: %v", m.what, l)
	}
}

// below: a root with these keys and children over pages.
func below(keys []string, children []int, pages map[int]api.Node) map[int]api.Node {
	return with(pages, 12, inner(keys, children...))
}

// The chapter's examples 2 to 4.
func TestTreeExamples(t *testing.T) {
	m := []string{"m"}
	for _, c := range []made{
		{"zeros", 1, 0, nil, p(3, 12, 8, 0)},
		{"a leaf", 1, 1, map[int]api.Node{12: leaf(entry("k", "v"))}, nil},
		{"a leaf, the count is more", 2, 1, map[int]api.Node{12: leaf(entry("k", "v"))}, p(8, 0)},
		{"an inner page over zeros", 1, 0, map[int]api.Node{12: inner(m, 13, 14)}, p(3, 13, 3, 14, 8, 0)},
		{"two small leaves", 2, 2, below(m, []int{13, 14}, map[int]api.Node{13: leaf(entry("a", "")), 14: leaf(entry("b", ""))}), p(4, 13, 4, 14, 5, 14)},
		{"a child in the log", 1, 1, below(m, []int{13, 5}, map[int]api.Node{13: leaf(entry("a", ""))}), p(1, 5, 4, 13)},
		{"round in a circle", 1, 1, below(m, []int{13, 14}, map[int]api.Node{13: inner([]string{"c"}, 12, 14), 14: leaf(entry("d", ""))}), p(2, 12, 2, 14, 4, 13, 4, 14)},
		{"a chain of zeros", 1, 1, map[int]api.Node{12: chained(20)}, p(7, 20)},
		{"a chain of 64 bytes", 1, 1, with(chainFrom(20, 64), 12, chained(20)), p(7, 20)},
		{"a chain that is its own next", 1, 1, map[int]api.Node{12: chained(20), 20: chain(500, 20)}, p(2, 20)},
	} {
		c.ask(t)
	}
	// No page has one child twice, so what says so in its bytes, with the right sum, is none.
	d := device(t, 64)
	lay(t, d, 12, inner(m, 13, 14))
	lay(t, d, 13, leaf(entry("a", "")))
	b, _ := d.Raw(12)
	b[14] = 13
	binary.LittleEndian.PutUint32(b[4:], sum.Parts(b[:4], b[8:]))
	d.Edit(12, 0, b)
	l, n := tree(t, d, super(12, 1))
	same(t, "the children 13, 13", l, p(3, 12, 8, 0))
	if n != 0 {
		t.Errorf("the children 13, 13: %d entries", n)
	}
}

// Rule 1: the region is 10 to 63.
func TestOutside(t *testing.T) {
	m := []string{"m"}
	a, z := full("a", "b"), full("m", "n")
	for _, c := range []made{
		{"the last block of the log", 2, 2, below(m, []int{13, 9}, map[int]api.Node{13: a, 9: z}), p(1, 9)},
		{"a superblock", 2, 2, below(m, []int{13, 1}, map[int]api.Node{13: a}), p(1, 1)},
		{"the first and the last block of the region", 4, 4, below(m, []int{10, 63}, map[int]api.Node{10: a, 63: z}), nil},
		{"the first behind the region", 2, 2, below(m, []int{13, 64}, map[int]api.Node{13: a}), p(1, 64)},
		{"far behind the region", 2, 2, below(m, []int{4095, 14}, map[int]api.Node{14: z}), p(1, 4095)},
		{"one block, named by three", 2, 2, below(m, []int{13, 9}, map[int]api.Node{13: chainedFull("a", 9, 9)}), p(1, 9)},
		{"a chain outside", 1, 1, map[int]api.Node{12: chained(9), 9: chain(65, 0)}, p(1, 9)},
		{"a chain that goes outside", 1, 1, map[int]api.Node{12: chained(20), 20: chain(65, 64)}, p(1, 64)},
		{"a short chain that goes outside", 1, 1, map[int]api.Node{12: chained(20), 20: chain(1, 1)}, p(1, 1)},
	} {
		c.ask(t)
	}
}

// Rule 2.
func TestAgain(t *testing.T) {
	m := []string{"m"}
	a := full("a", "b")
	for _, c := range []made{
		{"a chain on its own leaf", 1, 1, map[int]api.Node{12: chained(12)}, p(2, 12)},
		{"a chain on a leaf that was visited", 3, 3, below(m, []int{13, 14}, map[int]api.Node{13: a, 14: chainedFull("n", 13)}), p(2, 13)},
		{"a chain that goes there", 3, 3, below(m, []int{13, 14}, map[int]api.Node{13: a, 14: chainedFull("n", 20), 20: chain(65, 13)}), p(2, 13)},
		{"a page that stood in a chain", 1, 1, below(m, []int{13, 14}, map[int]api.Node{13: chainedFull("a", 14), 14: chain(70, 0)}), p(2, 14)},
		{"a leaf that stood in a chain", 1, 1, below(m, []int{13, 14}, map[int]api.Node{13: chainedFull("a", 14), 14: full("m", "n")}), p(2, 14, 7, 14)},
		{"zeros that stood in a chain", 1, 1, below(m, []int{13, 14}, map[int]api.Node{13: chainedFull("a", 14)}), p(2, 14, 7, 14)},
		{"a chain twice", 2, 2, with(chainFrom(20, 65), 12, chained(20, 20)), p(2, 20)},
		{"a chain thrice", 3, 3, with(chainFrom(20, 65), 12, chained(20, 20, 20)), p(2, 20)},
		{"zeros in two chains", 2, 2, map[int]api.Node{12: chained(20, 20)}, p(2, 20, 7, 20)},
		{"two chains of one end", 2, 2, map[int]api.Node{12: chained(20, 21), 20: chain(65, 22), 21: chain(65, 22), 22: chain(5, 0)}, p(2, 22)},
		{"a chain that begins in another", 2, 2, with(chainFrom(20, 500, 500, 5), 12, chained(20, 22)), p(2, 22)},
		{"a chain that ends in another", 2, 2, map[int]api.Node{12: chained(21, 20), 20: chain(500, 21), 21: chain(65, 0)}, p(2, 21)},
		{"a chain that goes back", 1, 1, with(with(chainFrom(20, 1, 1, 1), 22, chain(1, 21)), 12, chained(20)), p(2, 21)},
		{"zeros visited twice", 1, 0, below(m, []int{13, 14}, map[int]api.Node{13: wide("c", 20, 21), 14: wide("p", 21, 20)}), p(2, 20, 2, 21, 3, 20, 3, 21, 8, 0)},
		{"a leaf visited twice", 2, 2, below(m, []int{13, 14}, map[int]api.Node{13: wide("c", 20, 21), 14: wide("p", 20, 21), 20: a}), p(2, 20, 2, 21, 3, 21)},
	} {
		c.ask(t)
	}
}

// Rules 3 and 4.
func TestPagesThemselves(t *testing.T) {
	m := []string{"m"}
	a := full("a", "b")
	for _, c := range []made{
		{"a chain's page for a root", 1, 0, map[int]api.Node{12: chain(65, 0)}, p(3, 12, 8, 0)},
		{"a chain's page for a leaf, which isn't gone on from", 2, 2, below(m, []int{13, 14}, map[int]api.Node{13: a, 14: chain(400, 9)}), p(3, 14)},
		{"leaves of 127 and 128 bytes", 2, 2, below(m, []int{13, 14}, map[int]api.Node{13: leafOf(127, "a"), 14: leafOf(128, "m")}), p(4, 13)},
		{"leaves of 128 and 127 bytes", 2, 2, below(m, []int{13, 14}, map[int]api.Node{13: leafOf(128, "a"), 14: leafOf(127, "m")}), p(4, 14)},
		{"the smallest root", 1, 1, map[int]api.Node{12: leaf(entry("a", ""))}, nil},
		{"inner pages of 127 and 128 bytes", 8, 8, below(m, []int{13, 14}, map[int]api.Node{
			13: inner([]string{"b" + text(109)}, 15, 16), 14: inner([]string{"o" + text(110)}, 17, 18),
			15: full("a", "aa"), 16: full("c", "d"), 17: full("m", "n"), 18: full("p", "q"),
		}), p(4, 13)},
		{"a small chain is none", 1, 1, with(chainFrom(20, 65), 12, chained(20)), nil},
	} {
		c.ask(t)
	}
}

// Rule 5: with the low bound, without the high one; each child has its own.
func TestBounds(t *testing.T) {
	m := []string{"m"}
	a, z := full("a", "b"), full("m", "n")
	for _, c := range []made{
		{"a key that is the low bound", 4, 4, below(m, []int{13, 14}, map[int]api.Node{13: a, 14: z}), nil},
		{"a key just below the low bound", 4, 4, below([]string{"m\x00"}, []int{13, 14}, map[int]api.Node{13: a, 14: z}), p(5, 14)},
		{"a key just below the high bound", 4, 4, below(m, []int{13, 14}, map[int]api.Node{13: full("a", "l\xff"), 14: z}), nil},
		{"a key that is the high bound", 4, 4, below([]string{"b"}, []int{13, 14}, map[int]api.Node{13: a, 14: z}), p(5, 13)},
		{"the last of three keys", 5, 5, below(m, []int{13, 14}, map[int]api.Node{13: full("a", "b", "n"), 14: z}), p(5, 13)},
		{"children the wrong way round", 4, 4, below(m, []int{13, 14}, map[int]api.Node{13: z, 14: a}), p(5, 13, 5, 14)},
		{"the root has none", 2, 2, map[int]api.Node{12: leaf(entry("\x00", ""), entry("\xff\xff", ""))}, nil},
		{"between two keys", 8, 8, below([]string{"c", "m", "x"}, []int{13, 14, 15, 16}, map[int]api.Node{
			13: a, 14: full("c", "m"), 15: full("l", "n"), 16: full("w", "x"),
		}), p(5, 14, 5, 15, 5, 16)},
		{"bounds from above", 8, 8, below(m, []int{13, 14}, map[int]api.Node{
			13: wide("c", 15, 16), 14: wide("p", 17, 18), 15: a, 16: full("d", "m"), 17: full("l", "n"), 18: full("q", "\xff"),
		}), p(5, 16, 5, 17)},
		{"bounds that aren't from above", 8, 8, below(m, []int{13, 14}, map[int]api.Node{
			13: wide("c", 15, 16), 14: wide("p", 17, 18), 15: full("a", "c\xff"), 16: full("b", "d"), 17: full("m", "q"), 18: full("n", "r"),
		}), p(5, 15, 5, 16, 5, 17, 5, 18)},
		{"keys between children that are the bounds", 4, 4, below([]string{long("c"), long("m")}, []int{13, 14, 19}, map[int]api.Node{
			13: wide("c", 15, 16), 14: wide("c", 17, 18), 15: a, 18: full("d", "e"),
		}), p(3, 16, 3, 17, 3, 19, 5, 13)},
		{"keys between children beyond the bounds, which those keep to", 6, 6, below(m, []int{13, 14}, map[int]api.Node{
			13: wide("x", 15, 16), 14: wide("p", 17, 20), 15: full("a", "w"), 16: full("l", "y"), 17: full("m", "n"),
		}), p(3, 20, 5, 13, 5, 16)},
	} {
		c.ask(t)
	}
}

// Rule 6: the leaf that is visited first tells the depth; what breaks rule 3 is none.
func TestDepths(t *testing.T) {
	m := []string{"m"}
	a, z := full("a", "b"), full("m", "n")
	for _, c := range []made{
		{"leaves deeper than the first", 6, 6, below(m, []int{13, 14}, map[int]api.Node{13: a, 14: wide("p", 15, 16), 15: z, 16: full("q", "r")}), p(6, 15, 6, 16)},
		{"a leaf above the first", 6, 6, below(m, []int{14, 13}, map[int]api.Node{13: z, 14: wide("c", 15, 16), 15: a, 16: full("d", "e")}), p(6, 13)},
		{"the first is none", 4, 4, below(m, []int{13, 14}, map[int]api.Node{14: wide("p", 15, 16), 15: z, 16: full("q", "r")}), p(3, 13)},
	} {
		c.ask(t)
	}
}

// Rule 7: 65 to api.MaxValue bytes, and the place is the chain's first block.
func TestChains(t *testing.T) {
	sixteen := slices.Repeat([]int{500}, 16)
	most := func(more ...int) map[int]api.Node {
		return with(chainFrom(20, slices.Concat(sixteen, more)...), 12, chained(20))
	}
	for _, c := range []made{
		{"65 bytes", 1, 1, with(chainFrom(20, 65), 12, chained(20)), nil},
		{"65 bytes of two pages", 1, 1, with(chainFrom(20, 1, 64), 12, chained(20)), nil},
		{"64 bytes of three pages", 1, 1, with(chainFrom(20, 1, 62, 1), 12, chained(20)), p(7, 20)},
		{"8192 bytes", 1, 1, most(192), nil},
		{"8192 bytes, and one", 1, 1, most(192, 1), p(7, 20)},
		{"8193 bytes", 1, 1, most(193), p(7, 20)},
		{"8193 bytes, and pages more", 1, 1, most(193, 1, 1), p(7, 20)},
		{"8192 bytes, and a block outside", 1, 1, with(most(192), 36, chain(192, 9)), p(1, 9)},
		{"8193 bytes, and a block outside, to which nobody comes", 1, 1, with(most(193), 36, chain(193, 9)), p(7, 20)},
		{"8193 bytes, and a circle, to which nobody comes", 1, 1, with(most(193), 36, chain(193, 20)), p(7, 20)},
		{"8193 bytes, and another chain, to which nobody comes", 2, 2, with(with(with(most(193), 36, chain(193, 40)), 40, chain(65, 0)), 12, chained(20, 40)), p(7, 20)},
		{"a leaf for a chain", 1, 1, map[int]api.Node{12: chained(20), 20: full("x", "y")}, p(7, 20)},
		{"a leaf in a chain", 1, 1, map[int]api.Node{12: chained(20), 20: chain(500, 21), 21: full("x", "y")}, p(7, 20)},
		{"zeros in a chain", 1, 1, map[int]api.Node{12: chained(21), 21: chain(500, 20)}, p(7, 21)},
		{"each chain by itself", 3, 3, map[int]api.Node{12: chained(30, 25, 20), 20: chain(64, 0), 25: chain(65, 0), 30: chain(64, 0)}, p(7, 20, 7, 30)},
	} {
		c.ask(t)
	}
}

// Rules 8 and 9, also where there is no tree.
func TestSuperblocks(t *testing.T) {
	for _, c := range []struct {
		what  string
		alter func(*api.Super)
		want  []api.Problem
	}{
		{"an empty tree", func(s *api.Super) { s.Root, s.Count = 0, 0 }, nil},
		{"a leaf", func(s *api.Super) {}, nil},
		{"a count of 2", func(s *api.Super) { s.Count = 2 }, p(8, 0)},
		{"the greatest count", func(s *api.Super) { s.Count = top }, p(8, 0)},
		{"the generation Top", func(s *api.Super) { s.Generation = top }, p(9, 0)},
		{"the generation below it", func(s *api.Super) { s.Generation = top - 1 }, nil},
		{"the epoch Top", func(s *api.Super) { s.Epoch = top }, p(9, 0)},
		{"the epoch below it", func(s *api.Super) { s.Epoch = top - 1 }, nil},
		{"both Top", func(s *api.Super) { s.Generation, s.Epoch = top, top }, p(9, 0)},
		{"both Top, without a tree", func(s *api.Super) { s.Generation, s.Epoch, s.Root, s.Count = top, top, 0, 0 }, p(9, 0)},
		{"other numbers Top", func(s *api.Super) { s.Version, s.From = top, api.Mark{Stamp: top, At: (top - 1) % 8} }, nil},
		{"both rules", func(s *api.Super) { s.Count, s.Epoch = 2, top }, p(8, 0, 9, 0)},
	} {
		d := made{pages: map[int]api.Node{12: leaf(nodeEntry(t, "/a"))}}.lay(t)
		s := super(12, 1)
		c.alter(&s)
		l, n := tree(t, d, s)
		same(t, c.what, l, c.want)
		if want := int64(min(1, s.Root)); n != want {
			t.Errorf("%s: %d entries, want %d", c.what, n, want)
		}
		put(t, d, s)
		same(t, c.what+", by Check", check(t, d), c.want)
	}
}

// A tree is read through the cache, as whoever opens it would read it.
func TestThroughCache(t *testing.T) {
	d := device(t, 64)
	b, _ := page.Encode(leaf(entry("k", "v")))
	for _, kept := range []bool{false, true} {
		if errno := d.Write(12, b); errno != api.OK {
			t.Fatal(errno)
		}
		l, n := tree(t, d, super(12, 1))
		same(t, "a leaf in the cache", l, nil)
		if n != 1 {
			t.Errorf("%d entries", n)
		}
		if kept {
			d.Flush()
		} else {
			d.Crash(nil)
			l, _ = tree(t, d, super(12, 1))
			same(t, "a leaf that was lost", l, p(3, 12, 8, 0))
		}
	}
	d.Write(12, make([]byte, 512))
	l, _ := tree(t, d, super(12, 1))
	same(t, "zeros over a leaf", l, p(3, 12, 8, 0))
}

// Where several refusals hold, the first is told; with it nothing else.
func TestRefusals(t *testing.T) {
	numbers := []int{math.MinInt, -1, 65, math.MaxInt}
	refuses := func(what string, d *dev.Dev, s api.Super, most int, want api.Errno) {
		t.Helper()
		if l, n, errno := fsck.Tree(d, s, most); len(l) != 0 || n != 0 || errno != want {
			t.Errorf("Tree of %s: %v, %d, %d, want %d", what, l, n, errno, want)
		}
	}
	refusesLog := func(what string, d *dev.Dev, s api.Super, want api.Errno) {
		t.Helper()
		if n, l, errno := fsck.Log(d, s); n != 0 || len(l) != 0 || errno != want {
			t.Errorf("Log of %s: %d, %v, %d, want %d", what, n, l, errno, want)
		}
	}
	refusesCheck := func(what string, d *dev.Dev, most int, want api.Errno) {
		t.Helper()
		if l, errno := fsck.Check(d, most); len(l) != 0 || errno != want {
			t.Errorf("Check of %s: %v, %d, want %d", what, l, errno, want)
		}
	}
	valid := super(12, 1)
	invalid := []api.Super{{}, super(9, 1), super(64, 1), super(12, 0), super(0, 1), {Generation: 1, Epoch: 1, Blocks: 65, Log: 8, From: api.Mark{Stamp: 1}}}
	for _, alter := range []func(*api.Super){
		func(s *api.Super) { s.Generation = top + 1 }, func(s *api.Super) { s.Epoch = 0 }, func(s *api.Super) { s.Log = 7 }, func(s *api.Super) { s.Log = 23 },
		func(s *api.Super) { s.From = api.Mark{Stamp: 1, At: 1} }, func(s *api.Super) { s.Version = -1 }, func(s *api.Super) { s.Count = math.MaxInt64 },
	} {
		s := valid
		alter(&s)
		invalid = append(invalid, s)
	}
	down := device(t, 64)
	down.Arm(0)
	down.Flush()
	for _, d := range []*dev.Dev{device(t, 64), down} {
		for _, most := range numbers {
			refuses("a wrong number", d, valid, most, api.ErrArg)
			refusesCheck("a wrong number", d, most, api.ErrArg)
			refusesCheck("nothing", nil, most, api.ErrArg)
		}
		for _, s := range invalid {
			refuses("what isn't valid", d, s, 9, api.ErrArg)
			refusesLog("what isn't valid", d, s, api.ErrArg)
		}
	}
	refuses("nothing", nil, valid, 9, api.ErrArg)
	refusesLog("nothing", nil, valid, api.ErrArg)
	refusesCheck("nothing", nil, 9, api.ErrArg)
	for _, most := range []int{0, 1, 64} {
		refuses("what is down", down, valid, most, api.ErrDown)
		refuses("what is down, without a tree", down, super(0, 0), most, api.ErrDown)
		refusesCheck("what is down", down, most, api.ErrDown)
		refusesCheck("what has no superblock", device(t, 64), most, api.ErrCorrupt)
	}
	refusesLog("what is down", down, valid, api.ErrDown)
	other := device(t, 64)
	b, _ := other.Read(0)
	s := super(0, 0)
	s.Generation = 3
	put(t, other, s)
	odd, _ := other.Read(1)
	other.Edit(1, 0, b)
	other.Edit(0, 0, odd)
	refusesCheck("a superblock that lies in the other's block", other, 9, api.ErrCorrupt)
}

// Of two superblocks the newer is judged; of one that is spoilt, the other.
func TestWhichSuperblock(t *testing.T) {
	d := made{pages: map[int]api.Node{12: leaf(nodeEntry(t, "/a")), 13: leaf(nodeEntry(t, "/a"), nodeEntry(t, "/b"))}}.lay(t)
	older, newer := super(12, 1), super(13, 1)
	newer.Generation = 2
	put(t, d, older)
	same(t, "the older alone", check(t, d), nil)
	put(t, d, newer)
	same(t, "the newer", check(t, d), p(8, 0))
	d.Edit(0, 100, []byte{1})
	same(t, "the newer is spoilt", check(t, d), nil)
}

// However many problems there are, 64 are told, the first ones.
func TestMany(t *testing.T) {
	d, s := device(t, 4096), super(12, 1)
	s.Blocks = 4096
	var keys []string
	children := []int{3000}
	for i := range 80 {
		keys = append(keys, string(rune('0'+i)))
		children = append(children, 3000-i*30-1)
	}
	lay(t, d, 12, inner(keys, children...))
	var want []api.Problem
	slices.Sort(children)
	for _, block := range children[:64] {
		want = append(want, api.Problem{Rule: 3, Block: block})
	}
	l, n := tree(t, d, s)
	same(t, "81 blocks of zeros", l, want)
	if n != 0 {
		t.Errorf("%d entries", n)
	}
	put(t, d, s)
	same(t, "81 blocks of zeros, by Check", check(t, d), want)
}

// A tree of as many pages one below another as a device has ends like others.
func TestDeep(t *testing.T) {
	d, s := device(t, 4096), super(10, 2)
	s.Blocks = 4096
	var want []api.Problem
	for block := 10; block < 4095; block++ {
		lay(t, d, block, wide("m", block+1, 9))
		if block > 10 {
			want = append(want, api.Problem{Rule: 5, Block: block})
		}
	}
	lay(t, d, 4095, full("a", "b"))
	want = append(p(1, 9), want...)
	l, n := tree(t, d, s)
	same(t, "a deep tree", l, want[:64])
	if n != 2 {
		t.Errorf("%d entries", n)
	}
}
