package store_test

import (
	"bytes"
	"encoding/binary"
	"fmt"
	"math"
	"math/rand/v2"
	"slices"
	"testing"

	"bursar/anchor"
	"bursar/api"
	"bursar/dev"
	"bursar/page"
	"bursar/store"
	"bursar/sum"
	"bursar/wal"
)

// made: a device of 64 blocks with a log of 8, with these pages by hand, and a superblock that names the root 12.
func made(t *testing.T, count int64, pages map[int]api.Node) *dev.Dev {
	t.Helper()
	d := device(t, 64)
	for block, n := range pages {
		b, errno := page.Encode(n)
		if errno != api.OK {
			t.Fatalf("no page: %v", n)
		}
		d.Edit(block, 0, b)
	}
	super := api.Super{Generation: 1, Epoch: 1, Blocks: 64, Log: 8, From: api.Mark{Stamp: 1}, Root: 12, Count: count, Version: 5}
	is(t, "anchor.Write", anchor.Write(d, super), api.OK)
	return d
}

// leaf: a page with these keys; the value of a key k is "v", or lies in the chain at chains[k].
func leaf(chains map[string]int, keys ...string) api.Node {
	n := api.Node{Kind: 1}
	for _, key := range keys {
		if first, chained := chains[key]; chained {
			n.Entries = append(n.Entries, entry(key, ""))
			n.Chains = append(n.Chains, first)
		} else {
			n.Entries = append(n.Entries, entry(key, "v"))
			n.Chains = append(n.Chains, 0)
		}
	}
	return n
}

func inner(keys []string, children ...int) api.Node {
	return api.Node{Kind: 2, Keys: keys, Children: children}
}

func chain(bytes, next int) api.Node { return api.Node{Kind: 3, Data: text(bytes), Next: next} }

// opensSoundly: Open ends, with a store, or ErrCorrupt and nothing written; it reads no more than it may.
func opensSoundly(t *testing.T, d *dev.Dev) *store.Store {
	t.Helper()
	was, medium, pending := d.Counts(), d.Medium(), d.Pending()
	s, errno := store.Open(d)
	now := d.Counts()
	if now.Reads-was.Reads > 8*d.Blocks() {
		t.Fatalf("Open read %d times", now.Reads-was.Reads)
	}
	switch {
	case errno == api.OK && s != nil:
		if now.Writes != was.Writes+1 || now.Flushes != was.Flushes+1 {
			t.Fatalf("Open: %+v, was %+v", now, was)
		}
	case errno == api.ErrCorrupt && s == nil:
		if now.Writes != was.Writes || now.Flushes != was.Flushes || !bytes.Equal(d.Medium(), medium) || !slices.Equal(d.Pending(), pending) {
			t.Fatal("Open wrote to what is no store")
		}
	default:
		t.Fatalf("Open: %v, %d", s != nil, errno)
	}
	return s
}

func TestMadeTrees(t *testing.T) {
	m := []string{"m"}
	at20 := map[string]int{"c": 20}
	seventeen := map[int]api.Node{12: leaf(at20, "c")}
	for i := range 17 {
		seventeen[20+i] = chain(500, 21+i)
	}
	seventeen[36] = chain(193, 0)
	for what, c := range map[string]struct {
		count int64
		pages map[int]api.Node
		keys  []string // nil: no store
	}{
		"a leaf":                  {1, map[int]api.Node{12: leaf(nil, "k")}, []string{"k"}},
		"another number":          {2, map[int]api.Node{12: leaf(nil, "k")}, nil},
		"a greater number":        {1, map[int]api.Node{12: leaf(nil, "k", "l")}, nil},
		"no page":                 {1, nil, nil},
		"a chain for a root":      {1, map[int]api.Node{12: chain(70, 0)}, nil},
		"two leaves":              {2, map[int]api.Node{12: inner(m, 13, 14), 13: leaf(nil, "a"), 14: leaf(nil, "n")}, []string{"a", "n"}},
		"the wrong way round":     {2, map[int]api.Node{12: inner(m, 13, 14), 13: leaf(nil, "n"), 14: leaf(nil, "a")}, nil},
		"a key twice":             {2, map[int]api.Node{12: inner(m, 13, 14), 13: leaf(nil, "a"), 14: leaf(nil, "a")}, nil},
		"a key twice, told once":  {1, map[int]api.Node{12: inner(m, 13, 14), 13: leaf(nil, "a"), 14: leaf(nil, "a")}, nil},
		"a leaf in the log":       {2, map[int]api.Node{12: inner(m, 9, 14), 9: leaf(nil, "a"), 14: leaf(nil, "n")}, nil},
		"the first of the region": {2, map[int]api.Node{12: inner(m, 10, 63), 10: leaf(nil, "a"), 63: leaf(nil, "n")}, []string{"a", "n"}},
		"no leaf":                 {1, map[int]api.Node{12: inner(m, 13, 14), 13: leaf(nil, "a")}, nil},
		"a superblock":            {1, map[int]api.Node{12: inner(m, 13, 1), 13: leaf(nil, "a")}, nil},
		"beyond the device":       {1, map[int]api.Node{12: inner(m, 13, 64), 13: leaf(nil, "a")}, nil},
		"round and round":         {1, map[int]api.Node{12: inner(m, 12, 13), 13: leaf(nil, "n")}, nil},
		"a chain for a leaf":      {1, map[int]api.Node{12: inner(m, 13, 14), 13: leaf(nil, "a"), 14: chain(70, 0)}, nil},
		"a chain":                 {1, map[int]api.Node{12: leaf(at20, "c"), 20: chain(65, 0)}, []string{"c"}},
		"a short chain":           {1, map[int]api.Node{12: leaf(at20, "c"), 20: chain(64, 0)}, nil},
		"a short chain behind":    {1, map[int]api.Node{12: leaf(at20, "a", "c"), 20: chain(64, 0)}, nil},
		"a long chain":            {1, seventeen, nil},
		"a leaf for a chain":      {1, map[int]api.Node{12: leaf(at20, "c"), 20: leaf(nil, "x")}, nil},
		"no chain":                {1, map[int]api.Node{12: leaf(at20, "c")}, nil},
		"a chain of itself":       {1, map[int]api.Node{12: leaf(at20, "c"), 20: chain(1, 20)}, nil},
		"a chain in the log":      {1, map[int]api.Node{12: leaf(map[string]int{"c": 9}, "c"), 9: chain(65, 0)}, nil},
		"a chain's end there":     {1, map[int]api.Node{12: leaf(at20, "c"), 20: chain(65, 9), 9: chain(65, 0)}, nil},
		"a chain twice":           {2, map[int]api.Node{12: leaf(map[string]int{"c": 20, "d": 20}, "c", "d"), 20: chain(65, 0)}, nil},
		"two chains of one end":   {2, map[int]api.Node{12: leaf(map[string]int{"c": 20, "d": 21}, "c", "d"), 20: chain(65, 22), 21: chain(65, 22), 22: chain(5, 0)}, nil},
	} {
		d := made(t, c.count, c.pages)
		s := opensSoundly(t, d)
		if (s != nil) != (c.keys != nil) {
			t.Errorf("%s: opened %v", what, s != nil)
			continue
		}
		if s == nil {
			continue
		}
		stats(t, s, api.Stat{Generation: 2, Epoch: 2, Version: 5, LogFree: 3708, Entries: len(c.keys)})
		l, _, _ := s.Scan("", "", 9)
		for i, e := range l {
			if e.Key != c.keys[i] {
				t.Errorf("%s: %v", what, l)
			}
			gets(t, s, e.Key, e.Value, true, api.OK)
		}
		// A made tree is as good as another.
		apply(t, s, gone(c.keys[0]), set("z", text(600)))
		is(t, "Checkpoint", s.Checkpoint(), api.OK)
		gets(t, open(t, d), "z", text(600), true, api.OK)
	}
}

func TestMadeLogs(t *testing.T) {
	one := func(version int64, key string) string { return recordOf(version, []api.Change{set(key, "1")}) }
	for what, c := range map[string]struct {
		epoch   int64
		groups  [][]string
		version int64 // 0: no store
		next    int64 // that of the opening behind it
	}{
		"none":                      {2, nil, 5, 5},
		"one":                       {2, [][]string{{one(6, "a")}}, 6, 6},
		"three":                     {1, [][]string{{one(6, "a"), one(7, "b")}, {one(8, "a")}}, 8, 8},
		"no record":                 {2, [][]string{{"x"}}, 0, 0},
		"a byte more":               {2, [][]string{{one(6, "a") + "\x00"}}, 0, 0},
		"no record behind one":      {2, [][]string{{one(6, "a")}, {"\xc3"}}, 0, 0},
		"the same version":          {2, [][]string{{one(5, "a")}}, 0, 0},
		"two more":                  {2, [][]string{{one(7, "a")}}, 0, 0},
		"the second the same":       {2, [][]string{{one(6, "a"), one(6, "a")}}, 0, 0},
		"the second two more":       {2, [][]string{{one(6, "a")}, {one(8, "a")}}, 0, 0},
		"of the epoch behind this":  {3, [][]string{{one(6, "a")}}, 5, 6},
		"no record, of that epoch":  {3, [][]string{{"x"}}, 5, 0},
		"of an epoch far behind it": {9, [][]string{{one(6, "a")}}, 5, 5},
	} {
		d := made(t, 1, map[int]api.Node{12: leaf(nil, "k")})
		l, _, errno := wal.Open(d, 2, 8, api.Mark{Stamp: 1}, c.epoch)
		is(t, "wal.Open", errno, api.OK)
		for _, group := range c.groups {
			for _, record := range group {
				is(t, "Append", l.Append(record), api.OK)
			}
			is(t, "wal's Sync", l.Sync(), api.OK)
		}
		for _, version := range []int64{c.version, c.next} {
			s := opensSoundly(t, d)
			if (s != nil) != (version != 0) || s != nil && s.Version() != version {
				t.Errorf("%s: opened %v, want version %d", what, s != nil, version)
			}
		}
	}
}

// TestSpoilt: somebody edits the tree of an open store: ErrCorrupt, and the state stays; what the overlay has is told.
func TestSpoilt(t *testing.T) {
	d, s := fresh(t)
	apply(t, s, set("a", "1"), set("b", text(700)))
	is(t, "Checkpoint", s.Checkpoint(), api.OK)
	super, _, _ := anchor.Read(d)
	apply(t, s, set("c", "3"))
	was, _ := d.Raw(super.Root)
	d.Edit(super.Root, 0, make([]byte, 512))
	gets(t, s, "a", "", false, api.ErrCorrupt)
	gets(t, s, "c", "3", true, api.OK)
	if l, more, errno := s.Scan("", "", 9); len(l) != 0 || more || errno != api.ErrCorrupt {
		t.Errorf("Scan: %v, %v, %d", l, more, errno)
	}
	is(t, "Checkpoint", s.Checkpoint(), api.ErrCorrupt)
	stats(t, s, api.Stat{Generation: 3, Epoch: 2, Version: 2, LogFree: 3708 - logBytes, Entries: 3})
	apply(t, s, set("d", text(2000)))
	is(t, "Apply that needs a checkpoint", s.Apply([]api.Change{set("e", text(2000))}), api.ErrCorrupt)
	if x := s.Stat(); x.Version != 3 || x.Unsynced != 0 || x.Generation != 3 || x.Entries != 4 {
		t.Errorf("Stat: %+v", x)
	}
	opensNot(t, copied(t, d), api.ErrCorrupt)
	d.Edit(super.Root, 0, was)
	x := stateOf(3, entry("a", "1"), entry("b", text(700)), entry("c", "3"), entry("d", text(2000)))
	holds(t, s, x)
	is(t, "Checkpoint", s.Checkpoint(), api.OK)
	holds(t, s, x)
	holds(t, open(t, d), x)
}

// TestLost: somebody takes an entry out of the tree; when the others are gone, there are no pages for those that are told.
func TestLost(t *testing.T) {
	d, s := fresh(t)
	apply(t, s, set("k", "1"), set("l", "2"))
	is(t, "Checkpoint", s.Checkpoint(), api.OK)
	super, _, _ := anchor.Read(d)
	was, _ := d.Raw(super.Root)
	b, _ := page.Encode(leaf(nil, "k"))
	d.Edit(super.Root, 0, b)
	apply(t, s, gone("k"))
	is(t, "Checkpoint", s.Checkpoint(), api.ErrCorrupt)
	if x := s.Stat(); x.Version != 2 || x.Generation != 3 || x.Entries != 1 {
		t.Errorf("Stat: %+v", x)
	}
	d.Edit(super.Root, 0, was)
	holds(t, s, stateOf(2, entry("l", "2")))
	is(t, "Checkpoint", s.Checkpoint(), api.OK)
	holds(t, open(t, d), stateOf(2, entry("l", "2")))
}

// TestLaidOver: somebody lays pages that are whole over others of an open store's tree: what stands in no order is no tree any more; what does is told, also if it is more than there was.
func TestLaidOver(t *testing.T) {
	d := made(t, 4, map[int]api.Node{12: inner([]string{"c"}, 13, 14), 13: leaf(nil, "a", "b"), 14: leaf(nil, "c", "d")})
	s := open(t, d)
	apply(t, s, set("b", "2"))
	low, _ := d.Raw(13)
	high, _ := d.Raw(14)
	for _, c := range []struct {
		block int
		laid  []byte
	}{{14, low}, {13, high}} {
		was, _ := d.Raw(c.block)
		d.Edit(c.block, 0, c.laid)
		for _, most := range []int{3, 4, 9, math.MaxInt} {
			if l, more, errno := s.Scan("", "", most); len(l) != 0 || more || errno != api.ErrCorrupt {
				t.Errorf("Scan(%d) over block %d: %v, %v, %d", most, c.block, l, more, errno)
			}
		}
		d.Edit(c.block, 0, was)
	}
	b, _ := page.Encode(leaf(nil, "c", "d", "e", "f"))
	d.Edit(14, 0, b)
	for _, most := range []int{0, 1, 4, 5, 6, 7, math.MaxInt} {
		want := []api.Entry{entry("a", "v"), entry("b", "2"), entry("c", "v"), entry("d", "v"), entry("e", "v"), entry("f", "v")}
		if l, more, errno := s.Scan("", "", most); !slices.Equal(l, want[:min(most, 6)]) || more != (most < 6) || errno != api.OK {
			t.Errorf("Scan(%d): %v, %v, %d", most, l, more, errno)
		}
	}
}

// resealed: the block's bytes with the sum that a page, a log block or a superblock would have.
func resealed(b []byte, block int) {
	at := 4
	switch {
	case block < 2:
		at = 500
	case b[0] == 0xb7:
		at = 28
	}
	binary.LittleEndian.PutUint32(b[at:], sum.Parts(b[:at], b[at+4:]))
}

// spoil edits a device as somebody would who knows the sums.
func spoil(r *rand.Rand, d *dev.Dev, log int) {
	for range 1 + r.IntN(4) {
		block := r.IntN(min(d.Blocks(), 2+log+12))
		b, _ := d.Raw(block)
		switch r.IntN(6) {
		case 0:
			b, _ = d.Raw(r.IntN(d.Blocks()))
		case 1:
			b[8+r.IntN(60)] = byte(r.IntN(80))
		case 2:
			// Where a page names its first blocks.
			binary.LittleEndian.PutUint32(b[8:], uint32(r.IntN(d.Blocks()+2)))
		case 3:
			b[2] = byte(r.IntN(6))
		default:
			b[r.IntN(512)] ^= 1 << r.IntN(8)
		}
		if r.IntN(8) > 0 {
			resealed(b, block)
		}
		d.Edit(block, 0, b)
	}
}

// exercise makes calls of a store of whatever image: each ends, and a refused one leaves what is told.
func exercise(t *testing.T, r *rand.Rand, s *store.Store) {
	t.Helper()
	told := func() string {
		l, more, errno := s.Scan("", "", 1000)
		if errno != api.OK && errno != api.ErrCorrupt {
			t.Fatalf("Scan: %d", errno)
		}
		return fmt.Sprint(l, more, errno, s.Version())
	}
	for range 25 {
		was := told()
		var errno api.Errno
		allowed := []api.Errno{api.OK, api.ErrCorrupt}
		switch r.IntN(6) {
		case 0:
			_, _, errno = s.Get(anyKey(r))
		case 1:
			_, _, errno = s.Scan(anyKey(r), "", r.IntN(4))
		case 2:
			errno = s.Sync()
		case 3:
			errno = s.Checkpoint()
			allowed = append(allowed, api.ErrNoSpace)
		default:
			errno = s.Apply(anyChanges(r, 1000))
			allowed = append(allowed, api.ErrLogFull)
		}
		if !slices.Contains(allowed, errno) {
			t.Fatalf("a call answered %d", errno)
		}
		if errno != api.OK && told() != was {
			t.Fatalf("a call that answered %d left another state", errno)
		}
		s.Stat()
	}
}

// TestAnyImage: of whatever lies on a device Open ends, and so do all calls, and the Open behind them.
func TestAnyImage(t *testing.T) {
	opened, refused := 0, 0
	for seed := range uint64(20) {
		r := random(5000 + seed)
		p := newPlay(t, r, 64+r.IntN(20), 8)
		for range 30 {
			p.step(r, 600)
		}
		p.s.Sync()
		for range 40 {
			d := copied(t, p.d)
			spoil(r, d, p.log)
			for range 3 {
				s := opensSoundly(t, d)
				if s == nil {
					refused++
					break
				}
				opened++
				exercise(t, r, s)
			}
		}
	}
	if opened < 150 || refused < 150 {
		t.Errorf("opened %d, refused %d", opened, refused)
	}
}

// anyPage: a page with links to any blocks.
func anyPage(r *rand.Rand, depth int) api.Node {
	block := func() int { return 8 + r.IntN(57) }
	keys := make([]string, 0, 4)
	for range 1 + r.IntN(4) {
		keys = append(keys, anyKey(r))
	}
	slices.Sort(keys)
	keys = slices.Compact(keys)
	switch k := r.IntN(10); {
	case k < depth:
		n := inner(keys)
		for range len(keys) + 1 {
			n.Children = append(n.Children, block())
		}
		return n
	case k < 9:
		chains := map[string]int{}
		if r.IntN(3) == 0 {
			chains[keys[0]] = block()
		}
		return leaf(chains, keys...)
	}
	return chain(1+r.IntN(500), r.IntN(2)*block())
}

// TestAnyPages: trees whose pages are pages, but laid by chance; some of them open.
func TestAnyPages(t *testing.T) {
	opened := 0
	for seed := range uint64(1200) {
		r := random(9000 + seed)
		pages := map[int]api.Node{}
		for block := 8; block < 64; block++ {
			n := anyPage(r, 1+int(seed%4))
			if page.Fits(n) {
				pages[block] = n
			}
		}
		if len(pages[12].Children) == 0 && seed%3 > 0 {
			pages[12] = inner([]string{"f"}, 13, 14)
			pages[13], pages[14] = leaf(nil, "a", "b"), leaf(map[string]int{"z": 40}, "h", "z")
			pages[40] = chain(60, 41)
			pages[41] = chain(1+r.IntN(500), r.IntN(2)*(15+r.IntN(60)))
			if r.IntN(4) == 0 {
				pages[13+r.IntN(2)] = leaf(nil, anyKey(r))
			}
		}
		count := int64(1 + r.IntN(5))
		for _, n := range []int64{count, 4, 3} {
			d := made(t, n, pages)
			if s := opensSoundly(t, d); s != nil {
				opened++
				exercise(t, r, s)
				if s := opensSoundly(t, d); s != nil {
					exercise(t, r, s)
				}
			}
		}
	}
	if opened < 200 {
		t.Errorf("opened only %d", opened)
	}
}

// TestNoise: bytes by chance, and all alike.
func TestNoise(t *testing.T) {
	r := random(7)
	for i := range 60 {
		medium := make([]byte, 512*(64+r.IntN(30)))
		for j := range medium {
			medium[j] = byte(i)
			if i%2 == 0 {
				medium[j] = byte(r.IntN(256))
			}
		}
		d, _ := dev.Of(medium)
		if opensSoundly(t, d) != nil {
			t.Error("noise is a store")
		}
	}
}
