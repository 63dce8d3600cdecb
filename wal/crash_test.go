package wal_test

import (
	"math/rand/v2"
	"slices"
	"strings"
	"testing"

	"bursar/api"
	"bursar/dev"
	"bursar/wal"
)

// chronicle is what P7.3 promises of a region: the groups whose Sync answered OK or that were found, and the one that was refused.
type chronicle struct {
	t        *testing.T
	d        *dev.Dev
	first, n int
	l        *wal.Log
	epoch    int64
	sure     []syncedGroup // from the log's from on
	from     api.Mark
	refused  []string
}

type syncedGroup struct {
	records []string
	behind  api.Mark
}

func (c *chronicle) end() api.Mark {
	if len(c.sure) == 0 {
		return c.from
	}
	return c.sure[len(c.sure)-1].behind
}

func recordsOf(groups []syncedGroup) []string {
	var l []string
	for _, g := range groups {
		l = append(l, g.records...)
	}
	return l
}

// cut forgets the first groups.
func (c *chronicle) cut(groups int) {
	if groups > 0 {
		c.from, c.sure = c.sure[groups-1].behind, slices.Clone(c.sure[groups:])
	}
}

// behindEnd tells the mark behind records that come to the end.
func (c *chronicle) behindEnd(records []string) api.Mark {
	blocks, end := blocksFor(len(payloadOf(records...))), c.end()
	return mark(end.Stamp+int64(blocks), (end.At+blocks)%c.n)
}

// open opens the log behind some of the groups, in a greater epoch, and takes what is found as sure, if it is what is promised.
func (c *chronicle) open(behind int, epochs int64) {
	c.t.Helper()
	c.cut(behind)
	c.epoch += epochs
	l, records, e := wal.Open(c.d, c.first, c.n, c.from, c.epoch)
	if e != api.OK {
		c.t.Fatalf("Open: %d", e)
	}
	want := recordsOf(c.sure)
	if len(c.refused) > 0 && !slices.Equal(records, want) {
		want = append(want, c.refused...)
		c.sure = append(c.sure, syncedGroup{c.refused, c.behindEnd(c.refused)})
	}
	if !slices.Equal(records, want) {
		c.t.Fatalf("Open from %v on, epoch %d: %d records, %d are sure and %d may be", c.from, c.epoch, len(records), len(recordsOf(c.sure)), len(c.refused))
	}
	if l.End() != c.end() {
		c.t.Fatalf("End %v, want %v", l.End(), c.end())
	}
	c.l, c.refused = l, nil
}

// sync brings a group; the device goes down at the act armed (not at all, if it is below 0), and crashes with these fates.
func (c *chronicle) sync(records []string, armed int, fates []api.Fate) {
	c.t.Helper()
	for _, r := range records {
		if e := c.l.Append(r); e != api.OK {
			c.t.Fatalf("Append of %d bytes: %d", len(r), e)
		}
	}
	want := api.OK
	if armed >= 0 {
		c.d.Arm(armed)
		want = api.ErrDown
	}
	if e := c.l.Sync(); e != want {
		c.t.Fatalf("Sync: %d, want %d", e, want)
	}
	if want == api.OK {
		c.sure = append(c.sure, syncedGroup{records, c.behindEnd(records)})
		return
	}
	c.refused = records
	c.d.Crash(fates)
}

// copied goes on with a chronicle on a device of its own.
func (c *chronicle) copied() *chronicle {
	other := *c
	other.d, _ = dev.Of(c.d.Medium())
	other.sure = slices.Clone(c.sure)
	return &other
}

// crash is how one Sync is cut short.
type crash struct {
	blocks, armed int
	fates         []api.Fate
}

// crashesOf are all of groups of 1 to 3 blocks, each act at which the device goes down, and each list of fates.
func crashesOf(fates []api.Fate) []crash {
	var l []crash
	for blocks := 1; blocks <= 3; blocks++ {
		lists := [][]api.Fate{nil}
		for armed := 0; armed <= blocks; armed++ {
			var longer [][]api.Fate
			for _, list := range lists {
				l = append(l, crash{blocks, armed, list})
				for _, f := range fates {
					longer = append(longer, append(slices.Clone(list), f))
				}
			}
			lists = longer
		}
	}
	return l
}

func torn(at int) api.Fate { return api.Fate{Kind: api.Torn, At: at} }

// P7.3: two crashes one behind the other, over a region that was all 0 and over one that was gone round; then the log goes on. The stamps and epochs come over the edges of their bytes.
func TestTwoCrashes(t *testing.T) {
	few := []api.Fate{{Kind: api.Dropped}, {Kind: api.Kept}, torn(300)}
	many := []api.Fate{{Kind: api.Dropped}, {Kind: api.Kept}, torn(17), torn(300), torn(505)}
	for _, c := range []struct {
		from  api.Mark
		epoch int64
		round bool
	}{{mark(1, 0), 1, false}, {mark(246, 6), 254, true}} {
		base := &chronicle{t: t, d: device(t, 64), first: 40, n: 8, epoch: c.epoch, from: c.from}
		base.open(0, 1)
		if c.round {
			base.sync([]string{strings.Repeat("o", 6*464)}, -1, nil)
			base.l.Cut(base.end())
			base.cut(1)
			base.sync([]string{"p"}, -1, nil)
		}
		for _, one := range crashesOf(few) {
			behindOne := base.copied()
			behindOne.open(0, 1)
			behindOne.sync([]string{strings.Repeat("1", one.blocks*464-4)}, one.armed, one.fates)
			for _, two := range crashesOf(many) {
				behindTwo := behindOne.copied()
				behindTwo.open(0, 1)
				behindTwo.open(0, 0)
				if room := behindTwo.l.Room(); room < two.blocks*464-4 {
					behindTwo.l.Cut(behindTwo.end())
					behindTwo.cut(len(behindTwo.sure))
				}
				behindTwo.sync([]string{strings.Repeat("2", two.blocks*464-4)}, two.armed, two.fates)
				behindTwo.open(0, 1)
				behindTwo.sync([]string{"3"}, -1, nil)
				behindTwo.open(0, 1)
			}
			if t.Failed() {
				return
			}
		}
	}
}

// A group of which the crash leaves every block is found, else it isn't: told for all tears of one block, over 0 and over an older block.
func TestEveryTear(t *testing.T) {
	for _, c := range []struct {
		epoch, stamp int64
		whole        int // the least tear that leaves the block whole
	}{{7, 17, 505}, {7, 1 << 16, 507}, {7, 1<<56 + 1, 512}, {300, 1 << 8, 506}} {
		for at := 0; at <= 512; at++ {
			d := device(t, 64)
			from := mark(c.stamp, 3)
			l := opened(t, d, 2, 8, from, c.epoch)
			l.Append("torn")
			d.Arm(1)
			answers(t, "Sync", l.Sync(), api.ErrDown)
			d.Crash([]api.Fate{torn(at)})
			_, records, _ := wal.Open(d, 2, 8, from, c.epoch+1)
			if (len(records) == 1) != (at >= c.whole) {
				t.Errorf("stamp %d torn at %d: %q", c.stamp, at, records)
			}
		}
	}
}

// P7.3: no sum is trusted. The records are such that the torn block has the right sum; it is none all the same.
func TestTornWithTheRightSum(t *testing.T) {
	for _, at := range []int{32, 33, 100, 300, 480, 492} {
		d := device(t, 64)
		l := opened(t, d, 2, 8, begin, 1)
		synced(t, l, strings.Repeat("o", 460))
		synced(t, l, strings.Repeat("p", 7*464-4))
		answers(t, "Cut", l.Cut(l.End()), api.OK)
		old, _ := d.Raw(2)
		record := []byte(strings.Repeat("n", 460))
		whole := func() []byte {
			return built(api.Group{Epoch: 1, Stamp: 9, Total: 1, Bytes: 464}, payloadOf(string(record)))
		}
		mixed := func() []byte { return append(slices.Clone(whole()[:at]), old[at:]...) }
		choose(record, 456, sumOf(mixed()), func() uint32 { return sumOf(whole()) })
		d.Arm(1)
		answers(t, "Append", l.Append(string(record)), api.OK)
		answers(t, "Sync", l.Sync(), api.ErrDown)
		d.Crash([]api.Fate{torn(at)})
		b, _ := d.Raw(2)
		if !slices.Equal(b, mixed()) || !slices.Equal(b, summed(slices.Clone(b))) {
			t.Fatalf("torn at %d: not the block that was to be", at)
		}
		opened(t, d, 2, 8, mark(9, 0), 2)
	}
}

// choose sets the 4 bytes of b from at on so that sum tells what is wanted; sum is linear in their bits.
func choose(b []byte, at int, wanted uint32, sum func() uint32) {
	clear(b[at : at+4])
	left := sum() ^ wanted
	var effects, causes [32]uint32
	for bit := range 32 {
		b[at+bit/8] ^= 1 << (bit % 8)
		effect, cause := sum()^left^wanted, uint32(1)<<bit
		b[at+bit/8] ^= 1 << (bit % 8)
		for high := 31; high >= 0 && effect != 0; high-- {
			if effect>>high&1 == 0 {
				continue
			}
			if effects[high] == 0 {
				effects[high], causes[high] = effect, cause
				break
			}
			effect, cause = effect^effects[high], cause^causes[high]
		}
	}
	for high := 31; high >= 0; high-- {
		if left>>high&1 == 1 {
			left ^= effects[high]
			for i := range 4 {
				b[at+i] ^= byte(causes[high] >> (8 * i))
			}
		}
	}
}

// someRecord is any bytes, of them log blocks of about this time, or their ends.
func someRecord(random *rand.Rand, n int, end api.Mark, epoch int64) string {
	if random.IntN(2) == 0 {
		return string(noise(random, n))
	}
	var b []byte
	for len(b) < n {
		g := api.Group{Epoch: max(1, epoch+int64(random.IntN(3)-1)), Stamp: max(1, end.Stamp+int64(random.IntN(9)-4)), Total: 1, Bytes: 6}
		block := built(g, payloadOf("no"))
		if random.IntN(2) == 0 {
			block = block[496:]
		}
		b = append(b, block...)
	}
	return string(b[:n])
}

func someFate(random *rand.Rand) api.Fate {
	switch random.IntN(4) {
	case 0:
		return api.Fate{Kind: api.Dropped}
	case 1:
		return api.Fate{Kind: api.Kept}
	case 2:
		return torn(random.IntN(513))
	}
	return torn([]int{0, 1, 2, 8, 9, 16, 17, 24, 28, 32, 495, 496, 497, 498, 503, 504, 505, 506, 511, 512}[random.IntN(20)])
}

// P7.3: long chains of openings, groups, cuts and crashes.
func TestManyCrashes(t *testing.T) {
	random := rand.New(rand.NewPCG(7, 9))
	found, lost := 0, 0
	for range 120 {
		n := 8 + random.IntN(4)
		stamp := []int64{1, 200, 65500, 1<<32 - 100, 1<<56 - 50, 1<<60 - 5000}[random.IntN(6)]
		epoch := []int64{0, 250, 65530, 1<<40 - 8}[random.IntN(4)]
		c := &chronicle{t: t, d: device(t, 64), first: random.IntN(64 - n + 1), n: n, epoch: epoch, from: mark(stamp, random.IntN(n))}
		c.open(0, 1)
		for range 60 {
			sure := len(c.sure)
			switch {
			case c.l.Room() == 0 || random.IntN(4) == 0:
				groups := random.IntN(len(c.sure) + 1)
				c.cut(groups)
				answers(t, "Cut", c.l.Cut(c.from), api.OK)
			case random.IntN(3) == 0:
				room := c.l.Room()
				c.sync([]string{someRecord(random, 1+random.IntN(room), c.end(), c.epoch)}, -1, nil)
			default:
				crashOf(c, random)
				was := c.refused
				c.open(random.IntN(len(c.sure)+1), 1+int64(random.IntN(2)))
				if len(c.sure) > 0 && slices.Equal(c.sure[len(c.sure)-1].records, was) {
					found++
				} else {
					lost++
				}
			}
			if t.Failed() {
				t.Fatalf("with %d sure groups", sure)
			}
		}
	}
	if found < 300 || lost < 300 {
		t.Errorf("%d refused groups were found, %d not", found, lost)
	}
}

// crashOf lets a group of one record or two be cut short.
func crashOf(c *chronicle, random *rand.Rand) {
	c.t.Helper()
	records := []string{someRecord(random, 1+random.IntN(min(1500, c.l.Room())), c.end(), c.epoch)}
	if left := c.l.Room() - len(records[0]) - 4; left > 0 && random.IntN(2) == 0 {
		records = append(records, someRecord(random, 1+random.IntN(min(300, left)), c.end(), c.epoch))
	}
	blocks := blocksFor(len(payloadOf(records...)))
	armed := blocks - random.IntN(2)
	if random.IntN(3) == 0 {
		armed = random.IntN(blocks + 1)
	}
	fates := slices.Repeat([]api.Fate{{Kind: api.Kept}}, blocks)
	for i := range fates {
		if random.IntN(3) > 0 {
			fates[i] = someFate(random)
		}
	}
	c.sync(records, armed, fates)
}
