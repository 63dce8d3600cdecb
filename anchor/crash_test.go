package anchor_test

import (
	"bytes"
	"math/rand/v2"
	"testing"

	"bursar/anchor"
	"bursar/api"
	"bursar/dev"
)

// chronicle is what P11.3 promises of a device: what counts, none if its generation is 0.
type chronicle struct {
	t    *testing.T
	d    *dev.Dev
	last api.Super
}

func (c *chronicle) copied() *chronicle {
	d, _ := dev.Of(c.d.Medium())
	return &chronicle{c.t, d, c.last}
}

// counts asks that Read tells just what counts.
func (c *chronicle) counts() {
	c.t.Helper()
	if c.last.Generation == 0 {
		readsNone(c.t, c.d, api.ErrCorrupt)
	} else {
		reads(c.t, c.d, c.last, int(c.last.Generation%2))
	}
	if c.t.Failed() {
		c.t.FailNow()
	}
}

// writes lets a Write be done.
func (c *chronicle) writes(s api.Super) {
	c.t.Helper()
	writes(c.t, c.d, s, api.OK)
	c.last = s
	c.counts()
}

// crashes lets a Write be cut short at an act, and asks that what was to be written counts just if all its bytes are there: so it is told whether it does.
func (c *chronicle) crashes(s api.Super, armed int, fate api.Fate) bool {
	c.t.Helper()
	c.d.Arm(armed)
	writes(c.t, c.d, s, api.ErrDown)
	c.d.Crash([]api.Fate{fate})
	b, _ := c.d.Raw(int(s.Generation % 2))
	whole := bytes.Equal(b, built(s))
	if whole {
		c.last = s
	}
	c.counts()
	return whole
}

// starts are chronicles at their beginning, and at generations about which the bytes of the number turn.
func starts(t *testing.T) []*chronicle {
	first := &chronicle{t: t, d: device(t, 64)}
	l := []*chronicle{first, first.copied()}
	l[1].writes(super(1))
	for _, generation := range []int64{2, 3, 253, 254, 255, 256, 65533, 65534, 65535, 65536, 1<<24 - 1, 1<<32 - 2, 1<<32 - 1, 1<<40 - 1, 1<<48 - 2, 1<<56 - 1, 1 << 56, top - 2} {
		c := first.copied()
		c.writes(other(generation-1, 3))
		c.writes(other(generation, 5))
		l = append(l, c)
	}
	return l
}

// other is a superblock whose numbers are unlike those of others with another version.
func other(generation, version int64) api.Super {
	s := super(generation)
	s.Epoch, s.Version = 1+version*version, version
	s.From.Stamp = 1 + 8*version
	if version%3 > 0 {
		s.Root, s.Count = 10+int(version%50), 1+1000*version
	}
	return s
}

// P11.3: every tear of one Write, or its loss, and the next Writes go on behind it.
func TestEveryTear(t *testing.T) {
	for _, start := range starts(t) {
		generation := start.last.Generation + 1
		for at := -1; at <= 513; at++ {
			c := start.copied()
			fate := torn(at)
			if at == 513 {
				fate = api.Fate{Kind: api.Dropped}
			}
			c.crashes(other(generation, 7), 1, fate)
			next := c.last.Generation + 1
			if next <= top {
				c.writes(other(next, 8))
			}
			if next < top {
				c.writes(other(next+1, 9))
			}
		}
		c := start.copied()
		if c.crashes(other(generation, 7), 0, api.Fate{Kind: api.Kept}) {
			t.Fatal("a Write that was refused at once is there")
		}
	}
}

// P11.3: three Writes one behind the other, each torn: a block may hold pieces of all of them, under one generation.
func TestTearOverTear(t *testing.T) {
	few := []int{0, 4, 8, 9, 10, 12, 16, 20, 30, 34, 46, 50, 58, 64, 300, 500, 501, 502, 504, 505, 506, 508, 511, 512}
	for _, start := range starts(t) {
		for _, one := range few {
			behindOne := start.copied()
			behindOne.crashes(other(behindOne.last.Generation+1, 7), 1, torn(one))
			if behindOne.last.Generation == top {
				continue
			}
			for _, two := range few {
				behindTwo := behindOne.copied()
				behindTwo.crashes(other(behindTwo.last.Generation+1, 8), 1, torn(two))
				for three := 0; three < len(few) && behindTwo.last.Generation < top; three += 3 {
					c := behindTwo.copied()
					c.crashes(other(c.last.Generation+1, 10), 1, torn(few[three]))
				}
			}
		}
	}
}

// P11.3: long chains of Writes, done and cut short.
func TestManyCrashes(t *testing.T) {
	random := rand.New(rand.NewPCG(11, 9))
	found, lost := 0, 0
	for range 40 {
		blocks := []int{64, 65, 200}[random.IntN(3)]
		c := &chronicle{t: t, d: device(t, blocks)}
		for range 400 {
			s := someSuper(random, blocks)
			s.Generation = c.last.Generation + 1
			if random.IntN(3) == 0 {
				c.writes(s)
				continue
			}
			fate := []api.Fate{{Kind: api.Dropped}, {Kind: api.Kept}, torn(random.IntN(513)), torn(496 + random.IntN(17)), torn(random.IntN(70))}[random.IntN(5)]
			if c.crashes(s, min(1, random.IntN(5)), fate) {
				found++
			} else {
				lost++
			}
		}
	}
	if found < 1000 || lost < 1000 {
		t.Errorf("%d refused ones were found, %d not", found, lost)
	}
}

// P11.3: no sum is trusted. The epoch is such that the torn block has the right sum; it is none all the same.
func TestTornWithTheRightSum(t *testing.T) {
	for _, start := range starts(t) {
		generation := start.last.Generation + 1
		for _, at := range []int{20, 24, 32, 40, 48, 56, 60, 64, 300, 500} {
			c := start.copied()
			old, _ := c.d.Raw(int(generation % 2))
			s := other(generation, 7)
			mixed := func(word uint32) []byte {
				s.Epoch = 1<<40 + int64(word)
				return append(built(s)[:at:at], old[at:]...)
			}
			word := rightWord(mixed)
			b := mixed(word)
			if !bytes.Equal(b, summed(bytes.Clone(b))) || !anchor.Valid(s, 64) {
				t.Fatalf("torn at %d: no right sum", at)
			}
			if c.crashes(s, 1, torn(at)) {
				t.Fatalf("torn at %d, it is whole", at)
			}
			if there, _ := c.d.Raw(int(generation % 2)); !bytes.Equal(there, b) {
				t.Fatalf("torn at %d: not the block that was to be", at)
			}
		}
	}
}

// rightWord tells a word with which the block has the right sum. The sum is linear in the word's bits, and no two words have one in common.
func rightWord(block func(word uint32) []byte) uint32 {
	off := func(word uint32) uint32 {
		b := block(word)
		return sumOf(b) ^ sumIn(b)
	}
	left := off(0)
	none := left
	var effects, causes [32]uint32
	for bit := range 32 {
		cause := uint32(1) << bit
		effect := off(cause) ^ none
		for high := 31; high >= 0 && effect != 0; high-- {
			if effect>>high&1 == 0 {
				continue
			}
			if effects[high] == 0 {
				effects[high], causes[high] = effect, cause
				break
			}
			effect, cause = effect^effects[high], cause^causes[high]
		}
	}
	word := uint32(0)
	for high := 31; high >= 0; high-- {
		if left>>high&1 == 1 {
			left ^= effects[high]
			word ^= causes[high]
		}
	}
	return word
}
