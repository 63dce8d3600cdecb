package anchor_test

import (
	"bytes"
	"encoding/binary"
	"math"
	"math/rand/v2"
	"slices"
	"strings"
	"testing"

	"bursar/anchor"
	"bursar/api"
)

// Examples 1 and 4.
func TestExamples(t *testing.T) {
	d := device(t, 64)
	readsNone(t, d, api.ErrCorrupt)
	for i, s := range []api.Super{super(1), rooted(2), rooted(3)} {
		writes(t, d, s, api.OK)
		block := []int{1, 0, 1}[i]
		reads(t, d, s, block)
		if b, _ := d.Raw(block); !bytes.Equal(b, built(s)) {
			t.Errorf("block %d: %x, want %x", block, b, built(s))
		}
	}
	if c := d.Counts(); c.Writes != 3 || c.Flushes != 3 {
		t.Errorf("Counts: %+v", c)
	}
	d.Edit(0, 0, built(rooted(3)))
	reads(t, d, rooted(3), 1)
	d.Edit(1, 0, make([]byte, 512))
	readsNone(t, d, api.ErrCorrupt)
}

// Example 5. A tear at 511 leaves the very bytes that a kept write does, as the last byte of both generations is 0: so Read can tell but generation 4 there, whatever the example says; the least tear that does so is 505.
func TestDownExample(t *testing.T) {
	for _, c := range []struct {
		armed int
		fates []api.Fate
		want  int64
	}{
		{0, []api.Fate{{Kind: api.Kept}}, 3}, {1, nil, 3}, {1, []api.Fate{{Kind: api.Dropped}}, 3}, {1, []api.Fate{torn(0)}, 3},
		{1, []api.Fate{torn(9)}, 3}, {1, []api.Fate{torn(500)}, 3}, {1, []api.Fate{torn(504)}, 3},
		{1, []api.Fate{torn(505)}, 4}, {1, []api.Fate{torn(511)}, 4}, {1, []api.Fate{{Kind: api.Kept}}, 4},
	} {
		d := device(t, 64)
		for _, s := range []api.Super{super(1), rooted(2), rooted(3)} {
			writes(t, d, s, api.OK)
		}
		d.Arm(c.armed)
		writes(t, d, rooted(4), api.ErrDown)
		if !d.Down() || len(d.Pending()) != c.armed {
			t.Errorf("armed with %d: down %t, pending %v", c.armed, d.Down(), d.Pending())
		}
		readsNone(t, d, api.ErrDown)
		writes(t, d, rooted(4), api.ErrDown)
		d.Crash(c.fates)
		reads(t, d, rooted(c.want), int(c.want%2))
	}
}

// Example 2.
func TestBytesExample(t *testing.T) {
	one := "\x01" + strings.Repeat("\x00", 7)
	want := []byte("\x42\x53\x41\x52\x01\x00\x00\x00" + one + one + "\x40\x00\x00\x00\x08\x00\x00\x00" + one + strings.Repeat("\x00", 4+4+8+8+436+4) + one)
	summed(want)
	if b, e := anchor.Encode(super(1)); e != api.OK || !bytes.Equal(b, want) {
		t.Errorf("Encode: %x, %d, want %x", b, e, want)
	}
	if s, e := anchor.Decode(want); e != api.OK || s != super(1) {
		t.Errorf("Decode: %+v, %d", s, e)
	}
}

// Example 3, and what is beside it.
func TestValidExample(t *testing.T) {
	valid := func(want bool, change func(s *api.Super)) {
		t.Helper()
		s := rooted(1)
		change(&s)
		if anchor.Valid(s, 64) != want {
			t.Errorf("%+v: not %t", s, want)
		}
		holds(t, s, 64)
	}
	for _, change := range []func(s *api.Super){
		func(s *api.Super) { s.Blocks = 65 }, func(s *api.Super) { s.Log = 7 }, func(s *api.Super) { s.Log, s.Root = 23, 40 },
		func(s *api.Super) { s.From = api.Mark{} }, func(s *api.Super) { s.From.At = 1 }, func(s *api.Super) { s.From = api.Mark{Stamp: 9, At: 1} },
		func(s *api.Super) { s.Root = 0 }, func(s *api.Super) { s.Root = 9 }, func(s *api.Super) { s.Root = 64 }, func(s *api.Super) { s.Count = 0 },
		func(s *api.Super) { s.Epoch = 0 }, func(s *api.Super) { s.Generation = 1 << 60 },
	} {
		valid(false, change)
	}
	for _, change := range []func(s *api.Super){
		func(s *api.Super) {}, func(s *api.Super) { s.Log, s.Root = 22, 24 }, func(s *api.Super) { s.From = api.Mark{Stamp: 9} },
		func(s *api.Super) { s.From = api.Mark{Stamp: 8, At: 7} }, func(s *api.Super) { s.Root = 10 }, func(s *api.Super) { s.Root = 63 },
		func(s *api.Super) { s.Root, s.Count = 0, 0 }, func(s *api.Super) { s.Generation = top },
	} {
		valid(true, change)
	}
}

// P11.1: one number or two of a superblock are others, at all edges and beyond.
func TestWhatIsValid(t *testing.T) {
	fields := []func(s *api.Super, number int64){
		func(s *api.Super, number int64) { s.Generation = number }, func(s *api.Super, number int64) { s.Epoch = number },
		func(s *api.Super, number int64) { s.Blocks = int(number) }, func(s *api.Super, number int64) { s.Log = int(number) },
		func(s *api.Super, number int64) { s.From.Stamp = number }, func(s *api.Super, number int64) { s.From.At = int(number) },
		func(s *api.Super, number int64) { s.Root = int(number) }, func(s *api.Super, number int64) { s.Count = number },
		func(s *api.Super, number int64) { s.Version = number },
	}
	numbers := append(wrongs(), 8, 9, 10, 22, 23, 63, 64, 65, 511, 512, 513, 553, 554, 555, 4095, 4096, 4097)
	valid := 0
	for _, base := range []api.Super{super(1), rooted(2), greatest(), {Generation: 7, Epoch: 3, Blocks: 554, Log: 512, From: api.Mark{Stamp: 512, At: 511}, Root: 514, Count: 1}} {
		for i, one := range fields {
			for _, a := range numbers {
				for _, two := range fields[i:] {
					for _, b := range numbers {
						s := base
						one(&s, a)
						two(&s, b)
						for _, blocks := range []int{base.Blocks, s.Blocks, base.Blocks + 1} {
							if holds(t, s, blocks) {
								valid++
							}
						}
					}
				}
			}
		}
	}
	if valid < 1000 {
		t.Errorf("only %d were valid", valid)
	}
}

// The log's least and most, for every number of blocks.
func TestEveryParting(t *testing.T) {
	for blocks := range 4200 {
		for _, log := range []int{7, 8, blocks - 43, blocks - 42, blocks - 41, 511, 512, 513} {
			s := super(1)
			s.Blocks, s.Log = blocks, log
			holds(t, s, blocks)
		}
	}
	for _, blocks := range []int{math.MinInt, -64, -1, 1 << 32, 1<<32 + 64, math.MaxInt} {
		for _, log := range []int{math.MinInt, math.MaxInt, 8, 0} {
			s := super(1)
			s.Blocks, s.Log = blocks, log
			if holds(t, s, blocks) || holds(t, s, 64) {
				t.Errorf("a device of %d blocks, a log of %d", blocks, log)
			}
		}
	}
}

// Every place of the log comes in its turn, also where the stamps are great.
func TestPlacesOfStamps(t *testing.T) {
	for _, log := range []int{8, 9, 21, 22} {
		for _, from := range []int64{1, 1<<32 - 5, top - 50} {
			for stamp := from; stamp < from+60; stamp++ {
				fits := 0
				for at := -1; at <= log; at++ {
					s := super(1)
					s.Log, s.From = log, api.Mark{Stamp: stamp, At: at}
					if holds(t, s, 64) {
						fits++
					}
				}
				if want := stamp <= top; (fits == 1) != want || fits > 1 {
					t.Fatalf("stamp %d comes to %d places of %d", stamp, fits, log)
				}
			}
		}
	}
}

// P11.2: any superblock, back and forth.
func TestBackAndForth(t *testing.T) {
	random := rand.New(rand.NewPCG(11, 2))
	holds(t, greatest(), 4096)
	for range 20000 {
		blocks := []int{64, 65, 64 + random.IntN(4033), 4096}[random.IntN(4)]
		s := someSuper(random, blocks)
		if !holds(t, s, blocks) || !decodes(t, built(s)) {
			t.Fatalf("%+v isn't valid", s)
		}
	}
}

func TestDecodeOfOtherLengths(t *testing.T) {
	for _, n := range []int{0, 1, 63, 64, 500, 504, 511, 513, 1024, 1 << 20} {
		c := make([]byte, n)
		copy(c, built(super(1)))
		if s, e := anchor.Decode(c); s != (api.Super{}) || e != api.ErrSize {
			t.Errorf("Decode of %d bytes: %+v, %d", n, s, e)
		}
	}
	if s, e := anchor.Decode(nil); s != (api.Super{}) || e != api.ErrSize {
		t.Errorf("Decode(nil): %+v, %d", s, e)
	}
	for _, c := range []byte{0, 1, 0x42, 0xff} {
		if decodes(t, bytes.Repeat([]byte{c}, 512)) || decodes(t, summed(bytes.Repeat([]byte{c}, 512))) {
			t.Errorf("512 bytes %x are a superblock", c)
		}
	}
}

func someSupers(random *rand.Rand) []api.Super {
	return []api.Super{super(1), rooted(2), greatest(), someSuper(random, 64), someSuper(random, 300), someSuper(random, 4096)}
}

// Whatever one byte of a superblock becomes, with the right sum for it, and with the generation at its end for it: it is what the table says.
func TestEveryByteWithItsSum(t *testing.T) {
	random := rand.New(rand.NewPCG(11, 3))
	taken := 0
	for _, s := range someSupers(random) {
		for at := range 512 {
			for bit := range 8 {
				for _, change := range []byte{1 << bit, byte(random.Uint32())} {
					b := built(s)
					b[at] ^= change
					if decodes(t, b) != (change == 0) {
						t.Fatalf("byte %d: changed without its sum, it is a superblock's", at)
					}
					decodes(t, summed(b))
					copy(b[504:], b[8:16])
					if decodes(t, summed(b)) {
						taken++
					}
				}
			}
		}
	}
	if taken < 1000 {
		t.Errorf("only %d were taken", taken)
	}
}

// Superblocks of all numbers that aren't said to be, with the right sum; the generation at the end alone, too.
func TestForged(t *testing.T) {
	random := rand.New(rand.NewPCG(11, 4))
	fields := []struct{ at, n int }{{0, 4}, {4, 4}, {8, 8}, {16, 8}, {24, 4}, {28, 4}, {32, 8}, {40, 4}, {44, 4}, {48, 8}, {56, 8}, {64, 8}, {492, 8}, {504, 8}}
	numbers := append(wrongs(), 8, 10, 12, 22, 23, 63, 64, 65, 512, 513, 4095, 4096, 4097, 1<<31, 1<<32-1)
	taken := 0
	for range 100000 {
		all := someSupers(random)
		b := built(all[random.IntN(len(all))])
		for range 1 + random.IntN(3) {
			f := fields[random.IntN(len(fields))]
			number := binary.LittleEndian.AppendUint64(nil, uint64(numbers[random.IntN(len(numbers))]))
			copy(b[f.at:f.at+f.n], number)
			if random.IntN(4) > 0 {
				copy(b[504:], b[8:16])
			}
		}
		if decodes(t, summed(b)) {
			taken++
		}
	}
	if taken < 1000 {
		t.Errorf("only %d were taken", taken)
	}
}

// P11.4: bursts at every place, of every length up to 32 bits.
func TestBursts(t *testing.T) {
	random := rand.New(rand.NewPCG(11, 5))
	areas := []struct{ from, to int }{{0, 500 * 8}, {500 * 8, 504 * 8}, {504 * 8, 512 * 8}}
	for _, s := range someSupers(random) {
		for _, area := range areas {
			for at := area.from; at < area.to; at++ {
				for range 6 {
					length := 1 + random.IntN(min(32, area.to-at))
					b := built(s)
					for i := range length {
						if i == 0 || i == length-1 || random.IntN(2) == 0 {
							b[(at+i)/8] ^= 1 << ((at + i) % 8)
						}
					}
					if got, e := anchor.Decode(b); got != (api.Super{}) || e != api.ErrBad {
						t.Fatalf("a burst of %d bits from bit %d on: %+v, %d", length, at, got, e)
					}
				}
			}
		}
	}
}

// Nothing that is handed in is kept or changed, its spare room neither; what is answered is new.
func TestNothingIsShared(t *testing.T) {
	first, _ := anchor.Encode(rooted(2))
	second, _ := anchor.Encode(rooted(2))
	clear(first[:cap(first)])
	if third, _ := anchor.Encode(rooted(2)); !bytes.Equal(second, built(rooted(2))) || !bytes.Equal(third, second) {
		t.Error("Encode's bytes are shared")
	}
	_ = append(second, 1, 2, 3)
	for _, good := range []bool{true, false} {
		room := append(built(rooted(2)), 1, 2, 3)
		if !good {
			room[100] = 7
		}
		was := slices.Clone(room)
		if _, e := anchor.Decode(room[:512]); (e == api.OK) != good || !bytes.Equal(room, was) {
			t.Errorf("Decode: %d, and the bytes are %x", e, room)
		}
	}
}
