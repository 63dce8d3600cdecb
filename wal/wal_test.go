package wal_test

import (
	"bytes"
	"encoding/binary"
	"math"
	"math/rand/v2"
	"slices"
	"strings"
	"testing"

	"bursar/api"
	"bursar/dev"
	"bursar/wal"
)

var begin = api.Mark{Stamp: 1, At: 0}

func mark(stamp int64, at int) api.Mark { return api.Mark{Stamp: stamp, At: at} }

func device(t *testing.T, blocks int) *dev.Dev {
	t.Helper()
	d, e := dev.New(blocks)
	if e != api.OK {
		t.Fatalf("New(%d): %d", blocks, e)
	}
	return d
}

func opened(t *testing.T, d *dev.Dev, first, n int, from api.Mark, epoch int64, want ...string) *wal.Log {
	t.Helper()
	l, records, e := wal.Open(d, first, n, from, epoch)
	if l == nil || e != api.OK || !slices.Equal(records, want) {
		t.Fatalf("Open(%d, %d, %v, %d): %d records, %d, want %d", first, n, from, epoch, len(records), e, len(want))
	}
	return l
}

func answers(t *testing.T, call string, e, want api.Errno) {
	t.Helper()
	if e != want {
		t.Errorf("%s: %d, want %d", call, e, want)
	}
}

func synced(t *testing.T, l *wal.Log, records ...string) {
	t.Helper()
	for _, r := range records {
		answers(t, "Append", l.Append(r), api.OK)
	}
	answers(t, "Sync", l.Sync(), api.OK)
}

func stands(t *testing.T, l *wal.Log, end api.Mark, room, pending int) {
	t.Helper()
	if l.End() != end || l.Room() != room || l.Pending() != pending {
		t.Errorf("End %v, Room %d, Pending %d, want %v, %d, %d", l.End(), l.Room(), l.Pending(), end, room, pending)
	}
}

func counts(t *testing.T, d *dev.Dev, writes, flushes int) {
	t.Helper()
	if c := d.Counts(); c.Writes != writes || c.Flushes != flushes {
		t.Errorf("Counts: %+v, want %d writes, %d flushes", c, writes, flushes)
	}
}

// payloadOf lays records one behind the other.
func payloadOf(records ...string) []byte {
	var b []byte
	for _, r := range records {
		b = binary.LittleEndian.AppendUint32(b, uint32(len(r)))
		b = append(b, r...)
	}
	return b
}

func blocksFor(payload int) int {
	blocks := 0
	for 464*blocks < payload {
		blocks++
	}
	return blocks
}

// groupBlocks are the blocks of a group, by the table.
func groupBlocks(epoch, stamp int64, payload []byte) [][]byte {
	var l [][]byte
	total := blocksFor(len(payload))
	for i := range total {
		g := api.Group{Epoch: epoch, Stamp: stamp + int64(i), Index: i, Total: total, Bytes: len(payload)}
		l = append(l, built(g, payload[464*i:min(464*i+464, len(payload))]))
	}
	return l
}

// Examples 1, 2 and 3.
func TestExamples(t *testing.T) {
	d := device(t, 64)
	l := opened(t, d, 2, 8, begin, 1)
	stands(t, l, begin, 3708, 0)
	answers(t, "Append", l.Append("abc"), api.OK)
	stands(t, l, begin, 3701, 1)
	counts(t, d, 0, 0)
	answers(t, "Sync", l.Sync(), api.OK)
	counts(t, d, 1, 1)
	stands(t, l, mark(2, 1), 7*464-4, 0)
	if b, _ := d.Raw(2); !bytes.Equal(b, groupBlocks(1, 1, payloadOf("abc"))[0]) {
		t.Errorf("block 2: %x", b)
	}
	x := strings.Repeat("x", 1000)
	answers(t, "Append", l.Append(x), api.OK)
	answers(t, "Append", l.Append("y"), api.OK)
	answers(t, "Sync", l.Sync(), api.OK)
	counts(t, d, 4, 2)
	stands(t, l, mark(5, 4), 1852, 0)
	for i, want := range groupBlocks(1, 2, payloadOf(x, "y")) {
		if b, _ := d.Raw(3 + i); !bytes.Equal(b, want) {
			t.Errorf("block %d: %x, want %x", 3+i, b, want)
		}
	}
	stands(t, opened(t, d, 2, 8, begin, 2, "abc", x, "y"), mark(5, 4), 1852, 0)
	stands(t, opened(t, d, 2, 8, mark(2, 1), 2, x, "y"), mark(5, 4), 5*464-4, 0)
	stands(t, opened(t, d, 2, 8, mark(3, 2), 2), mark(3, 2), 3708, 0)
	stands(t, opened(t, d, 2, 8, mark(2, 2), 2), mark(2, 2), 3708, 0)
	answers(t, "Append of all that is free", l.Append(strings.Repeat("z", 1852)), api.OK)
	stands(t, l, mark(5, 4), 0, 1)
	answers(t, "Append of 1 byte more", l.Append("a"), api.ErrLogFull)
	answers(t, "Cut", l.Cut(mark(2, 1)), api.OK)
	stands(t, l, mark(5, 4), 460, 1)
	for _, m := range []api.Mark{mark(2, 2), mark(1, 0), mark(6, 5)} {
		answers(t, "Cut to no place", l.Cut(m), api.ErrArg)
	}
	stands(t, l, mark(5, 4), 460, 1)
	counts(t, d, 4, 2)
}

// Example 4, with the tears around the last stamp.
func TestDownExample(t *testing.T) {
	x := strings.Repeat("x", 1000)
	kept := api.Fate{Kind: api.Kept}
	torn := func(at int) api.Fate { return api.Fate{Kind: api.Torn, At: at} }
	for _, c := range []struct {
		arm   int
		fates []api.Fate
		found bool
	}{
		{0, nil, false}, {1, []api.Fate{kept}, false}, {2, []api.Fate{kept, torn(511)}, false}, {2, []api.Fate{kept, kept}, false},
		{3, []api.Fate{kept, kept, kept}, true}, {3, []api.Fate{kept, kept}, false}, {3, []api.Fate{kept, kept, torn(505)}, true},
		{3, []api.Fate{kept, kept, torn(504)}, false}, {3, []api.Fate{torn(504), kept, kept}, false}, {3, []api.Fate{kept, torn(0), kept}, false},
		{3, []api.Fate{torn(505), torn(600), torn(511)}, true}, {3, nil, false},
	} {
		d := device(t, 64)
		l := opened(t, d, 2, 8, begin, 1)
		synced(t, l, "abc")
		l.Append(x)
		l.Append("y")
		d.Arm(c.arm)
		answers(t, "Sync", l.Sync(), api.ErrDown)
		counts(t, d, 1+c.arm, 1)
		stands(t, l, mark(2, 1), 0, 2)
		if l, r, e := wal.Open(d, 2, 8, begin, 2); l != nil || r != nil || e != api.ErrDown {
			t.Errorf("Open of a device that is down: %v, %d", r, e)
		}
		d.Crash(c.fates)
		answers(t, "Append to a dead log", l.Append("z"), api.ErrDown)
		answers(t, "Append of none to a dead log", l.Append(""), api.ErrDown)
		answers(t, "Sync of a dead log", l.Sync(), api.ErrDown)
		counts(t, d, 1+c.arm, 1)
		stands(t, l, mark(2, 1), 0, 2)
		l.Drop()
		stands(t, l, mark(2, 1), 0, 0)
		answers(t, "Sync of a dead log without records", l.Sync(), api.ErrDown)
		answers(t, "Cut of a dead log", l.Cut(mark(2, 1)), api.OK)
		answers(t, "Cut behind it", l.Cut(mark(1, 0)), api.ErrArg)
		stands(t, l, mark(2, 1), 0, 0)
		want := []string{"abc"}
		if c.found {
			want = append(want, x, "y")
		}
		opened(t, d, 2, 8, begin, 2, want...)
	}
}

// Example 5, and numbers far off: ErrArg, also where the device is down.
func TestWrongOpens(t *testing.T) {
	small, down, large := device(t, 64), device(t, 64), device(t, 1024)
	down.Arm(0)
	down.Flush()
	for _, c := range []struct {
		d        *dev.Dev
		first, n int
		from     api.Mark
		epoch    int64
	}{
		{nil, 2, 8, begin, 1}, {small, 60, 8, begin, 1}, {small, 57, 8, begin, 1}, {small, 64, 8, begin, 1}, {small, -1, 8, begin, 1}, {small, -8, 8, begin, 1},
		{small, math.MaxInt, 8, begin, 1}, {small, math.MaxInt - 7, 8, begin, 1}, {small, math.MinInt, 8, begin, 1}, {small, 1 << 62, 8, begin, 1},
		{small, 0, 65, begin, 1}, {small, 1, 64, begin, 1}, {small, -1, 65, begin, 1}, {small, 2, 7, begin, 1}, {small, 2, 0, begin, 1}, {small, 2, -8, begin, 1},
		{small, 2, math.MaxInt, begin, 1}, {small, 2, math.MinInt, begin, 1}, {small, math.MaxInt, math.MaxInt, begin, 1}, {large, 2, 513, begin, 1}, {large, 0, 1024, begin, 1}, {large, 513, 512, begin, 1},
		{small, 2, 8, mark(0, 0), 1}, {small, 2, 8, mark(-1, 0), 1}, {small, 2, 8, mark(1<<60+1, 0), 1}, {small, 2, 8, mark(math.MaxInt64, 0), 1}, {small, 2, 8, mark(math.MinInt64, 0), 1},
		{small, 2, 8, mark(1, 8), 1}, {small, 2, 8, mark(1, -1), 1}, {small, 2, 8, mark(1, math.MaxInt), 1}, {small, 2, 8, mark(1, math.MinInt), 1},
		{small, 2, 8, begin, 0}, {small, 2, 8, begin, -1}, {small, 2, 8, begin, 1<<60 + 1}, {small, 2, 8, begin, math.MaxInt64}, {small, 2, 8, begin, math.MinInt64},
		{down, 2, 7, begin, 1}, {down, 2, 8, mark(0, 0), 1}, {down, 57, 8, begin, 1}, {down, 2, 8, begin, 0},
	} {
		if l, r, e := wal.Open(c.d, c.first, c.n, c.from, c.epoch); l != nil || r != nil || e != api.ErrArg {
			t.Errorf("Open(%d, %d, %v, %d): %v, %d", c.first, c.n, c.from, c.epoch, r, e)
		}
	}
	if l, r, e := wal.Open(down, 2, 8, begin, 1); l != nil || r != nil || e != api.ErrDown {
		t.Errorf("Open of a device that is down: %v, %d", r, e)
	}
	stands(t, opened(t, small, 0, 64, mark(1<<60, 63), 1<<60), mark(1<<60, 63), 460, 0)
	stands(t, opened(t, small, 56, 8, mark(1, 7), 1), mark(1, 7), 3708, 0)
	stands(t, opened(t, large, 512, 512, begin, 1), begin, 32768, 0)
	if c := small.Counts(); c.Writes+c.Flushes != 0 || c.Reads > 64+8 {
		t.Errorf("acts of Open: %+v", c)
	}
}

// What Append refuses, in its order; P7.1's edges of a record.
func TestWhatAppendRefuses(t *testing.T) {
	d := device(t, 128)
	l := opened(t, d, 10, 8, begin, 1)
	long := strings.Repeat("r", 32769)
	answers(t, "Append(\"\")", l.Append(""), api.ErrLong)
	answers(t, "Append of 32769 bytes", l.Append(long), api.ErrLong)
	answers(t, "Append of 32768 bytes", l.Append(long[:32768]), api.ErrLogFull)
	answers(t, "Append of 3709 bytes", l.Append(long[:3709]), api.ErrLogFull)
	stands(t, l, begin, 3708, 0)
	answers(t, "Append of 3708 bytes", l.Append(long[:3708]), api.OK)
	answers(t, "Append(\"\") to a full log", l.Append(""), api.ErrLong)
	answers(t, "Append of 32769 bytes to a full log", l.Append(long), api.ErrLong)
	stands(t, l, begin, 0, 1)
	l.Drop()
	for i := range 742 { // records of 1 byte: 5 bytes each, of 3712
		answers(t, "Append of 1 byte", l.Append("1"), api.OK)
		stands(t, l, begin, max(0, 3712-5*(i+1)-4), i+1)
	}
	answers(t, "Append of 1 byte", l.Append("1"), api.ErrLogFull)
	stands(t, l, begin, 0, 742)
	answers(t, "Sync", l.Sync(), api.OK)
	counts(t, d, 8, 1)
	stands(t, l, mark(9, 0), 0, 0)
	answers(t, "Append of 1 byte", l.Append("1"), api.ErrLogFull)
	opened(t, d, 10, 8, begin, 1, slices.Repeat([]string{"1"}, 742)...)

	l = opened(t, d, 18, 71, begin, 1)
	stands(t, l, begin, 32768, 0)
	answers(t, "Append of 32769 bytes", l.Append(long), api.ErrLong)
	answers(t, "Append of 32768 bytes", l.Append(long[:32768]), api.OK)
	stands(t, l, begin, 71*464-32772-4, 1)
	l.Drop()
	stands(t, opened(t, d, 18, 70, begin, 1), begin, 70*464-4, 0)
}

// The last stamps: a group that needs one more is refused with ErrArg, behind ErrLogFull.
func TestLastStamps(t *testing.T) {
	const last = 1 << 60
	d := device(t, 64)
	from := mark(last-2, 6)
	l := opened(t, d, 2, 8, from, last)
	stands(t, l, from, 3*464-4, 0)
	answers(t, "Append that needs 9 blocks", l.Append(strings.Repeat("a", 3709)), api.ErrLogFull)
	answers(t, "Append that needs 8 stamps", l.Append(strings.Repeat("a", 3708)), api.ErrArg)
	answers(t, "Append that needs 4 stamps", l.Append(strings.Repeat("a", 1389)), api.ErrArg)
	stands(t, l, from, 1388, 0)
	answers(t, "Append", l.Append("abc"), api.OK)
	answers(t, "Append that needs 4 stamps", l.Append(strings.Repeat("a", 1382)), api.ErrArg)
	stands(t, l, from, 1381, 1)
	rest := strings.Repeat("a", 1381)
	synced(t, l, rest)
	end := mark(last+1, 1)
	stands(t, l, end, 0, 0)
	answers(t, "Append without stamps", l.Append("a"), api.ErrArg)
	answers(t, "Append without stamps, too long for 5 blocks", l.Append(strings.Repeat("a", 5*464-3)), api.ErrLogFull)
	answers(t, "Append without stamps, too long", l.Append(strings.Repeat("a", 32769)), api.ErrLong)
	answers(t, "Sync of no records", l.Sync(), api.OK)
	stands(t, opened(t, d, 2, 8, from, last, "abc", rest), end, 0, 0)
	answers(t, "Cut behind the end", l.Cut(mark(last+2, 2)), api.ErrArg)
	answers(t, "Cut to the end", l.Cut(end), api.OK)
	answers(t, "Cut behind the last cut", l.Cut(mark(last, 0)), api.ErrArg)
	stands(t, l, end, 0, 0)
	stands(t, opened(t, d, 2, 8, mark(last, 0), last), mark(last, 0), 460, 0)
}

// Cut takes just the marks from from to end, each at its place; P7.1.
func TestCuts(t *testing.T) {
	d := device(t, 64)
	for _, from := range []api.Mark{mark(1, 0), mark(1, 5), mark(1000, 7), mark(1<<60-20, 3)} {
		for blocks := range 9 {
			for stamp := from.Stamp - 3; stamp <= from.Stamp+12; stamp++ {
				for at := -1; at <= 8; at++ {
					checkCut(t, d, from, blocks, mark(stamp, at))
				}
			}
			for _, m := range []api.Mark{mark(math.MaxInt64, from.At), mark(math.MinInt64, from.At), mark(0, from.At), mark(from.Stamp, math.MaxInt), mark(from.Stamp, math.MinInt), mark(from.Stamp, from.At+8), mark(from.Stamp, from.At-8)} {
				checkCut(t, d, from, blocks, m)
			}
		}
		d = device(t, 64)
	}
}

// checkCut asks a log with so many blocks from from on.
func checkCut(t *testing.T, d *dev.Dev, from api.Mark, blocks int, to api.Mark) {
	t.Helper()
	l, _, _ := wal.Open(d, 20, 8, mark(from.Stamp, from.At), 1<<59)
	if int(l.End().Stamp-from.Stamp) < blocks {
		synced(t, l, "x")
		l, _, _ = wal.Open(d, 20, 8, mark(from.Stamp, from.At), 1<<59)
	}
	end := mark(from.Stamp+int64(blocks), (from.At+blocks)%8)
	if l.End() != end {
		t.Fatalf("End %v, want %v", l.End(), end)
	}
	want, free := api.ErrArg, 8-blocks
	for i := range blocks + 1 {
		if to == mark(from.Stamp+int64(i), (from.At+i)%8) {
			want, free = api.OK, 8-blocks+i
		}
	}
	if e := l.Cut(to); e != want {
		t.Fatalf("Cut(%v) of %v to %v: %d, want %d", to, from, end, e, want)
	}
	stands(t, l, end, max(0, 464*free-4), 0)
}

// Sync's acts are the writes of the group's blocks, in order, and one flush; nothing outside the region is touched.
func TestActsOfSync(t *testing.T) {
	for total := 1; total <= 8; total++ {
		for at := range 8 {
			for arm := 0; arm <= total+1; arm++ {
				checkActs(t, total, at, arm)
			}
		}
	}
	d := device(t, 64)
	l := opened(t, d, 2, 8, begin, 1)
	for i := range 10 {
		answers(t, "Sync of no records", l.Sync(), api.OK)
		counts(t, d, 0, i+1)
		stands(t, l, begin, 3708, 0)
	}
	d.Arm(0)
	answers(t, "Sync of no records", l.Sync(), api.ErrDown)
	d.Crash(nil)
	answers(t, "Sync of a dead log", l.Sync(), api.ErrDown)
	answers(t, "Append to a dead log", l.Append("a"), api.ErrDown)
	stands(t, l, begin, 0, 0)
	counts(t, d, 0, 10)
}

func checkActs(t *testing.T, total, at, arm int) {
	t.Helper()
	medium := bytes.Repeat([]byte{0xee}, 64*512)
	d, _ := dev.Of(medium)
	l := opened(t, d, 30, 8, mark(77, at), 5)
	record := strings.Repeat("q", 464*total-4)
	answers(t, "Append", l.Append(record), api.OK)
	d.Arm(arm)
	want, end, room, pending := api.ErrDown, mark(77, at), 0, 1
	if arm == total+1 {
		want, end, room, pending = api.OK, mark(77+int64(total), (at+total)%8), max(0, 464*(8-total)-4), 0
	}
	answers(t, "Sync", l.Sync(), want)
	stands(t, l, end, room, pending)
	var blocks []int
	for i, b := range groupBlocks(5, 77, payloadOf(record)) {
		if i < arm {
			block := 30 + (at+i)%8
			blocks = append(blocks, block)
			copy(medium[512*block:], b)
		}
	}
	if want == api.OK {
		counts(t, d, total, 1)
	} else {
		counts(t, d, arm, 0)
		if !slices.Equal(d.Pending(), blocks) {
			t.Errorf("written: %v, want %v", d.Pending(), blocks)
		}
		d.Crash(slices.Repeat([]api.Fate{{Kind: api.Kept}}, total))
	}
	if !bytes.Equal(d.Medium(), medium) {
		t.Errorf("the medium behind a Sync of %d blocks from place %d on, armed with %d, isn't as said", total, at, arm)
	}
}

// scanned tells by the chapter's words what Open finds in a region.
func scanned(region [][]byte, from api.Mark, epoch int64) ([]string, api.Mark) {
	var all []string
	taken, least := 0, int64(0)
	for {
		at := mark(from.Stamp+int64(taken), (from.At+taken)%len(region))
		found := false
		for total := 1; total <= len(region)-taken && !found; total++ {
			records, of, is := groupAt(region, at, total)
			if is && of <= epoch && of >= least {
				all, least, found = append(all, records...), of, true
				taken += total
			}
		}
		if !found {
			return all, at
		}
	}
}

// groupAt tells whether there are the blocks of a group of so many, its records, and its epoch.
func groupAt(region [][]byte, at api.Mark, total int) ([]string, int64, bool) {
	var payload []byte
	var head api.Group
	for i := range total {
		g, p, is := told(region[(at.At+i)%len(region)])
		if i == 0 {
			head = g
		}
		if !is || g.Stamp != at.Stamp+int64(i) || g.Index != i || g.Total != total || g.Epoch != head.Epoch || g.Bytes != head.Bytes {
			return nil, 0, false
		}
		payload = append(payload, p...)
	}
	var records []string
	for len(payload) > 0 {
		if len(payload) < 4 {
			return nil, 0, false
		}
		n := int(binary.LittleEndian.Uint32(payload))
		if n < 1 || n > 32768 || n > len(payload)-4 {
			return nil, 0, false
		}
		records = append(records, string(payload[4:4+n]))
		payload = payload[4+n:]
	}
	return records, head.Epoch, true
}

// laidOn lays a region on a new device.
func laidOn(t *testing.T, blocks, first int, region [][]byte) *dev.Dev {
	t.Helper()
	d := device(t, blocks)
	for i, b := range region {
		d.Edit(first+i, 0, b)
	}
	return d
}

// somePayload is one of records, mostly, and sometimes nearly one.
func somePayload(random *rand.Rand, most int) []byte {
	var b []byte
	for range 1 + random.IntN(3) {
		b = append(b, payloadOf(string(noise(random, 1+random.IntN(most))))...)
	}
	switch random.IntN(50) {
	case 0:
		b = append(b, noise(random, 1+random.IntN(5))...)
	case 1:
		b = append(b, make([]byte, 1+random.IntN(8))...)
	case 2:
		b = b[:len(b)-1]
	case 3:
		b[0] ^= 1
	}
	return b
}

// someRegion is groups from a mark on, a few of them with a block of other numbers.
func someRegion(random *rand.Rand, n int, from api.Mark, epoch int64) [][]byte {
	region := make([][]byte, n)
	for i := range region {
		region[i] = make([]byte, 512)
	}
	for taken := 0; taken < n+4; {
		group := groupBlocks(epoch, from.Stamp+int64(taken), somePayload(random, 400))
		for i, b := range group {
			if random.IntN(40) == 0 {
				b = otherBlock(random, b)
			}
			region[(from.At+taken+i)%n] = b
		}
		taken += len(group)
		switch random.IntN(40) {
		case 0, 1, 2, 3:
			epoch++
		case 4:
			epoch--
		case 5:
			return region
		}
	}
	return region
}

// otherBlock changes one number of a block a little, with the right sum.
func otherBlock(random *rand.Rand, b []byte) []byte {
	g, payload, _ := told(b)
	by := 2*random.IntN(2) - 1
	switch random.IntN(6) {
	case 0:
		g.Epoch += int64(by)
	case 1:
		g.Stamp += int64(by)
	case 2:
		g.Index += by
	case 3:
		g.Total += by
	case 4:
		g.Bytes += by
	case 5:
		b = slices.Clone(b)
		b[random.IntN(512)] ^= 1
		return b
	}
	return built(g, payload)
}

// What Open finds in any region, and that it reads it at most once and writes nothing.
func TestScan(t *testing.T) {
	random := rand.New(rand.NewPCG(7, 7))
	ends := map[int]int{}
	for range 4000 {
		n := 8 + random.IntN(5)
		epoch := int64(2 + random.IntN(3))
		from := mark(int64(5+random.IntN(20)), random.IntN(n))
		region := someRegion(random, n, from, epoch)
		d := laidOn(t, 64, 64-n, region)
		medium := d.Medium()
		for _, m := range []api.Mark{from, mark(from.Stamp+1, (from.At+1)%n), mark(from.Stamp-1, from.At), mark(from.Stamp, (from.At+1)%n)} {
			for e := epoch - 1; e < epoch+4; e += 1 + int64(random.IntN(2)) {
				was := d.Counts()
				records, end := scanned(region, m, e)
				l := opened(t, d, 64-n, n, m, e, records...)
				stands(t, l, end, max(0, 464*(n-int(end.Stamp-m.Stamp))-4), 0)
				if c := d.Counts(); c.Reads-was.Reads > n || c.Writes+c.Flushes != 0 {
					t.Fatalf("acts of Open: %+v", c)
				}
				ends[int(end.Stamp-m.Stamp)]++
			}
		}
		if !bytes.Equal(d.Medium(), medium) {
			t.Fatal("Open changed the medium")
		}
		if t.Failed() {
			return
		}
	}
	for blocks := range 13 {
		if ends[blocks] < 5 {
			t.Errorf("only %d scans took %d blocks", ends[blocks], blocks)
		}
	}
}

// Where one number of one block is another than the group's, the group isn't taken, nor what lies behind it.
func TestOneNumberOff(t *testing.T) {
	payload := payloadOf(strings.Repeat("x", 1000), "y")
	good := append(groupBlocks(4, 9, payloadOf("ahead")), groupBlocks(5, 10, payload)...)
	good = append(good, groupBlocks(5, 13, payloadOf("behind"))...)
	for len(good) < 8 {
		good = append(good, make([]byte, 512))
	}
	opened(t, laidOn(t, 64, 3, good), 3, 8, mark(9, 0), 5, "ahead", strings.Repeat("x", 1000), "y", "behind")
	opened(t, laidOn(t, 64, 3, good), 3, 8, mark(9, 0), 4, "ahead")
	opened(t, laidOn(t, 64, 3, good), 3, 8, mark(9, 0), 3)
	for i := 1; i <= 3; i++ {
		g, p, _ := told(good[i])
		for _, off := range []api.Group{
			{Epoch: 1}, {Epoch: -1}, {Epoch: -2}, {Stamp: 1}, {Stamp: -1}, {Stamp: 8}, {Index: 1}, {Index: -1}, {Total: 1}, {Total: -1}, {Bytes: 1}, {Bytes: -1},
		} {
			other := api.Group{Epoch: g.Epoch + off.Epoch, Stamp: g.Stamp + off.Stamp, Index: g.Index + off.Index, Total: g.Total + off.Total, Bytes: g.Bytes + off.Bytes}
			region := slices.Clone(good)
			region[i] = built(other, p)
			opened(t, laidOn(t, 64, 3, region), 3, 8, mark(9, 0), 9, "ahead")
		}
	}
	older := slices.Clone(good)
	copy(older[1:], groupBlocks(3, 10, payload))
	opened(t, laidOn(t, 64, 3, older), 3, 8, mark(9, 0), 9, "ahead")
	copy(older[1:], groupBlocks(4, 10, payload))
	opened(t, laidOn(t, 64, 3, older), 3, 8, mark(9, 0), 9, "ahead", strings.Repeat("x", 1000), "y", "behind")
}

// Payloads that are none of records; lengths up to the greatest that 4 bytes have.
func TestPayloads(t *testing.T) {
	record := strings.Repeat("r", 32769)
	for _, c := range []struct {
		payload []byte
		records []string
	}{
		{payloadOf("a"), []string{"a"}}, {payloadOf("a", "bc"), []string{"a", "bc"}}, {payloadOf(record[:32768]), []string{record[:32768]}},
		{payloadOf(record), nil}, {payloadOf(""), nil}, {payloadOf("a", ""), nil}, {payloadOf("", "a"), nil}, {[]byte{0}, nil}, {[]byte{1}, nil}, {[]byte{1, 0, 0}, nil}, {[]byte{1, 0, 0, 0}, nil},
		{append(payloadOf("a"), 0), nil}, {append(payloadOf("a"), 1, 0, 0), nil}, {append(payloadOf("a"), 1, 0, 0, 0), nil}, {append(payloadOf("a"), 2, 0, 0, 0, 7), nil},
		{[]byte{0xff, 0xff, 0xff, 0xff, 1, 2, 3}, nil}, {[]byte{1, 0, 0, 0x80, 1}, nil}, {[]byte{1, 0, 1, 0, 1}, nil}, {[]byte{4, 0, 0, 0, 1, 2, 3}, nil}, {[]byte{3, 0, 0, 0, 1, 2, 3}, []string{"\x01\x02\x03"}},
	} {
		group := groupBlocks(1, 1, c.payload)
		d := laidOn(t, 256, 7, group)
		opened(t, d, 7, 100, begin, 1, c.records...)
	}
}

// From a mark inside a group nothing is taken, also where what its last blocks have is records by itself.
func TestInsideAGroup(t *testing.T) {
	d := device(t, 64)
	border := strings.Repeat("b", 460)
	synced(t, opened(t, d, 2, 8, begin, 1), border, border, "y")
	opened(t, d, 2, 8, begin, 2, border, border, "y")
	for _, m := range []api.Mark{mark(2, 1), mark(3, 2)} {
		stands(t, opened(t, d, 2, 8, m, 2), m, 3708, 0)
	}
}

// A group may fill the whole region, and no more blocks than it has are taken.
func TestWholeRegion(t *testing.T) {
	d := device(t, 1024)
	for _, n := range []int{8, 9, 100, 511, 512} {
		from := mark(int64(n), n/2)
		l := opened(t, d, 1024-n, n, from, 1)
		var records []string
		for l.Room() > 0 {
			records = append(records, strings.Repeat("w", l.Room()))
			answers(t, "Append of all there is room for", l.Append(records[len(records)-1]), api.OK)
		}
		answers(t, "Append", l.Append("a"), api.ErrLogFull)
		answers(t, "Sync", l.Sync(), api.OK)
		end := mark(int64(2*n), n/2)
		stands(t, l, end, 0, 0)
		stands(t, opened(t, d, 1024-n, n, from, 2, records...), end, 0, 0)
		answers(t, "Cut", l.Cut(end), api.OK)
		stands(t, l, end, min(32768, 464*n-4), 0)
		synced(t, l, "next")
		opened(t, d, 1024-n, n, end, 2, "next")
		for i := range n {
			d.Edit(1024-n+i, 0, make([]byte, 512))
		}
	}
	region := make([][]byte, 8)
	for i := range region {
		region[i] = groupBlocks(1, int64(i+1), payloadOf("one"))[0]
	}
	stands(t, opened(t, laidOn(t, 64, 2, region), 2, 8, begin, 1, slices.Repeat([]string{"one"}, 8)...), mark(9, 0), 0, 0)
}

// P7.4: many times round, with groups of all sizes; what is free is always taken, and no more.
func TestRound(t *testing.T) {
	random := rand.New(rand.NewPCG(7, 8))
	d := device(t, 64)
	l := opened(t, d, 5, 9, begin, 1)
	from, end := begin, begin
	type group struct {
		behind  api.Mark
		records []string
	}
	var kept []group
	for round := range 2000 {
		free := 9 - int(end.Stamp-from.Stamp)
		if free > 0 {
			blocks := 1 + random.IntN(free)
			bytesOf := 464*blocks - random.IntN(459)
			g := group{behind: mark(end.Stamp+int64(blocks), (end.At+blocks)%9)}
			for left := bytesOf; left > 0; {
				n := left - 4
				if n > 10 && random.IntN(2) == 0 {
					n = 1 + random.IntN(n-6)
				}
				g.records = append(g.records, string(noise(random, n)))
				left -= n + 4
			}
			if blocks == free {
				answers(t, "Append of more than is free", l.Append(string(make([]byte, 464*free-3))), api.ErrLogFull)
			}
			synced(t, l, g.records...)
			kept, end = append(kept, g), g.behind
		}
		stands(t, l, end, max(0, 464*(9-int(end.Stamp-from.Stamp))-4), 0)
		for len(kept) > 0 && (random.IntN(3) == 0 || end.Stamp-from.Stamp == 9) {
			from, kept = kept[0].behind, kept[1:]
			answers(t, "Cut", l.Cut(from), api.OK)
		}
		var want []string
		for _, g := range kept {
			want = append(want, g.records...)
		}
		m := opened(t, d, 5, 9, from, int64(1+round), want...)
		if m.End() != end {
			t.Fatalf("End %v, want %v", m.End(), end)
		}
		if random.IntN(5) == 0 {
			l = m
		}
		if t.Failed() {
			return
		}
	}
	if end.Stamp < 2000 {
		t.Errorf("only %d blocks were written", end.Stamp)
	}
}

// paper is a log on paper: what the chapter says of it, without its bytes.
type paper struct {
	n         int
	from, end api.Mark
	group     []string
	dead      bool
}

func (p *paper) free() int { return p.n - int(p.end.Stamp-p.from.Stamp) }

func (p *paper) append(length int) api.Errno {
	blocks := blocksFor(len(payloadOf(p.group...)) + 4 + length)
	switch {
	case p.dead:
		return api.ErrDown
	case length == 0 || length > 32768:
		return api.ErrLong
	case blocks > p.free():
		return api.ErrLogFull
	case p.end.Stamp+int64(blocks)-1 > 1<<60:
		return api.ErrArg
	}
	return api.OK
}

func (p *paper) cut(to api.Mark) api.Errno {
	for i := range p.n - p.free() + 1 {
		if m := mark(p.from.Stamp+int64(i), (p.from.At+i)%p.n); m == to {
			p.from = to
			return api.OK
		}
	}
	return api.ErrArg
}

// sync is armed with so many acts.
func (p *paper) sync(acts int) api.Errno {
	blocks := blocksFor(len(payloadOf(p.group...)))
	if p.dead || acts <= blocks {
		p.dead = true
		return api.ErrDown
	}
	p.end, p.group = mark(p.end.Stamp+int64(blocks), (p.end.At+blocks)%p.n), nil
	return api.OK
}

// check holds all that a log tells against the paper.
func (p *paper) check(t *testing.T, l *wal.Log) {
	t.Helper()
	room := l.Room()
	if l.End() != p.end || l.Pending() != len(p.group) {
		t.Fatalf("End %v, Pending %d, want %v, %d", l.End(), l.Pending(), p.end, len(p.group))
	}
	if room < 0 || (room > 0 && p.append(room) != api.OK) || p.append(room+1) == api.OK {
		t.Fatalf("Room %d: Append of that answers %d, of one more %d", room, p.append(room), p.append(room+1))
	}
}

// P7.1: all calls in any order, also of dead logs, and what no call but Sync does: an act.
func TestCalls(t *testing.T) {
	random := rand.New(rand.NewPCG(7, 10))
	met := map[api.Errno]int{}
	for range 300 {
		n := []int{8, 8, 9, 80}[random.IntN(4)]
		from := mark([]int64{1, 77, 1<<60 - 40, 1 << 60}[random.IntN(4)], random.IntN(n))
		d := device(t, 100)
		l := opened(t, d, 3, n, from, 1)
		p := &paper{n: n, from: from, end: from}
		for range 60 {
			was := d.Counts()
			switch random.IntN(8) {
			case 0, 1, 2, 3:
				room := l.Room()
				record := string(noise(random, []int{0, 1, random.IntN(500), room, room + 1, random.IntN(room + 1), 32768, 32769}[random.IntN(8)]))
				want := p.append(len(record))
				answers(t, "Append", l.Append(record), want)
				if want == api.OK {
					p.group = append(p.group, record)
				}
				met[want]++
			case 4:
				steps := random.IntN(n - p.free() + 1)
				to := mark(p.from.Stamp+int64(steps), (p.from.At+steps)%n)
				if random.IntN(4) == 0 {
					to = mark(to.Stamp+int64(random.IntN(3)-1), to.At+random.IntN(3)-1)
				}
				answers(t, "Cut", l.Cut(to), p.cut(to))
			case 5:
				l.Drop()
				p.group = nil
			default:
				acts := 1000
				if random.IntN(12) == 0 {
					acts = random.IntN(3)
				}
				d.Arm(acts)
				answers(t, "Sync", l.Sync(), p.sync(acts))
				was = d.Counts()
			}
			if d.Counts() != was {
				t.Fatalf("acts: %+v behind %+v", d.Counts(), was)
			}
			p.check(t, l)
			if t.Failed() {
				return
			}
		}
	}
	for _, e := range []api.Errno{api.OK, api.ErrDown, api.ErrLong, api.ErrLogFull, api.ErrArg} {
		if met[e] < 50 {
			t.Errorf("Append answered %d only %d times", e, met[e])
		}
	}
}

// P7.6: what Open answers is its own: neither logs nor records share anything.
func TestLogsShareNothing(t *testing.T) {
	d := device(t, 64)
	l := opened(t, d, 2, 8, begin, 1)
	synced(t, l, "a", "b")
	first, records, _ := wal.Open(d, 2, 8, begin, 2)
	second, again, _ := wal.Open(d, 2, 8, begin, 2)
	records[0] = "c"
	_ = append(records[:1], "d")
	if !slices.Equal(again, []string{"a", "b"}) {
		t.Errorf("the records of another: %q", again)
	}
	answers(t, "Append", first.Append("e"), api.OK)
	answers(t, "Cut", first.Cut(mark(2, 1)), api.OK)
	stands(t, first, mark(2, 1), 8*464-9, 1)
	stands(t, second, mark(2, 1), 7*464-4, 0)
	stands(t, l, mark(2, 1), 7*464-4, 0)
}
