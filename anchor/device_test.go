package anchor_test

import (
	"bytes"
	"math/rand/v2"
	"slices"
	"testing"

	"bursar/anchor"
	"bursar/api"
	"bursar/dev"
)

// counting tells by the chapter's words what counts on a device, and in which block.
func counting(d *dev.Dev) (api.Super, int, bool) {
	var supers [2]api.Super
	for block := range supers {
		b, _ := d.Read(block)
		if s, is := says(b); is && s.Blocks == d.Blocks() && s.Generation&1 == int64(block) {
			supers[block] = s
		}
	}
	at := 0
	if supers[1].Generation > supers[0].Generation {
		at = 1
	}
	return supers[at], at, supers[at].Generation > 0
}

func TestNilAndWrong(t *testing.T) {
	readsNone(t, nil, api.ErrArg)
	writes(t, nil, super(1), api.ErrArg)
	writes(t, nil, api.Super{}, api.ErrArg)
	d := device(t, 64)
	wider := super(1)
	wider.Blocks = 65
	for _, s := range []api.Super{{}, super(0), super(-1), super(top + 1), wider, greatest()} {
		writes(t, d, s, api.ErrArg)
	}
	d.Arm(0)
	writes(t, d, super(0), api.ErrArg)
	if c := d.Counts(); c.Writes+c.Flushes != 0 || d.Down() || len(d.Pending()) > 0 {
		t.Errorf("a refused Write acts: %+v", c)
	}
	writes(t, d, super(1), api.ErrDown)
	writes(t, d, super(0), api.ErrArg)
	readsNone(t, d, api.ErrDown)
	d.Crash(nil)
	readsNone(t, d, api.ErrCorrupt)
}

// What a Write does: one block, one flush, nothing else; other unflushed writes come to the medium by it.
func TestWriteActs(t *testing.T) {
	random := rand.New(rand.NewPCG(11, 6))
	for _, blocks := range []int{64, 100, 4096} {
		d := device(t, blocks)
		for range 20 {
			s := someSuper(random, blocks)
			d.Write(50, bytes.Repeat([]byte{byte(random.Uint32())}, 512))
			want := d.Medium()
			there, _ := d.Read(50)
			copy(want[50*512:], there)
			copy(want[int(s.Generation&1)*512:], built(s))
			was := d.Counts()
			writes(t, d, s, api.OK)
			if c := d.Counts(); c.Writes != was.Writes+1 || c.Flushes != was.Flushes+1 {
				t.Fatalf("Counts: %+v behind %+v", c, was)
			}
			if !bytes.Equal(d.Medium(), want) || len(d.Pending()) > 0 {
				t.Fatalf("Write(%+v) left another medium, pending %v", s, d.Pending())
			}
		}
	}
}

// Read writes nothing, and looks through the cache.
func TestReadActs(t *testing.T) {
	d := device(t, 64)
	writes(t, d, super(1), api.OK)
	d.Write(0, built(rooted(2)))
	was, medium := d.Counts(), d.Medium()
	reads(t, d, rooted(2), 0)
	if c := d.Counts(); c.Writes != was.Writes || c.Flushes != was.Flushes || !bytes.Equal(d.Medium(), medium) || !slices.Equal(d.Pending(), []int{0}) {
		t.Errorf("Read acts: %+v behind %+v", c, was)
	}
	d.Arm(0)
	reads(t, d, rooted(2), 0)
	d.Crash(nil)
	reads(t, d, super(1), 1)
	d.Write(1, make([]byte, 512))
	readsNone(t, d, api.ErrCorrupt)
	d.Crash(nil)
	reads(t, d, super(1), 1)
}

// P11.1: what counts, of any two blocks: superblocks of this device and of others, in their block or in the other one, whole or not; what lies behind the two blocks says nothing.
func TestWhatCounts(t *testing.T) {
	random := rand.New(rand.NewPCG(11, 7))
	none, at := 0, [2]int{}
	for range 20000 {
		d := device(t, 64)
		for block := range 3 {
			s := someSuper(random, []int{64, 64, 64, 65}[random.IntN(4)])
			if random.IntN(2) == 0 {
				s.Generation = 1 + random.Int64N(6)
			}
			if random.IntN(4) > 0 && s.Generation > 1 {
				s.Generation -= (s.Generation + int64(block)) % 2
			}
			b := built(s)
			if random.IntN(4) == 0 {
				b[random.IntN(512)] ^= 1 << random.IntN(8)
			}
			d.Edit(block, 0, b)
		}
		want, block, some := counting(d)
		if !some {
			none++
			readsNone(t, d, api.ErrCorrupt)
		} else {
			at[block]++
			reads(t, d, want, block)
		}
		if t.Failed() {
			return
		}
	}
	if none < 500 || at[0] < 500 || at[1] < 500 {
		t.Errorf("%d times none counts, %d times block 0's, %d times block 1's", none, at[0], at[1])
	}
}

// Of two that count the greater generation is told, not the later one, and not that of a greater epoch or version.
func TestGreaterGeneration(t *testing.T) {
	newer, older := super(4), rooted(3)
	older.Epoch, older.Version = 9, 99
	d := device(t, 64)
	writes(t, d, newer, api.OK)
	writes(t, d, older, api.OK)
	reads(t, d, newer, 0)
	newer.Generation = 1<<56 + 1
	writes(t, d, newer, api.OK)
	older.Generation = 1<<56 - 2
	writes(t, d, older, api.OK)
	reads(t, d, newer, 1)
}

// Any bytes at all: Read ends, and tells what counts.
func TestAnyBytes(t *testing.T) {
	random := rand.New(rand.NewPCG(11, 8))
	for range 300 {
		b := make([]byte, 64*512)
		for i := range 1024 {
			b[i] = byte(random.Uint32())
		}
		d, _ := dev.Of(b)
		readsNone(t, d, api.ErrCorrupt)
		copy(b, "BSAR\x01\x00\x00\x00")
		copy(b[504:512], b[8:16])
		if s, e := anchor.Decode(summed(b[:512])); s != (api.Super{}) || e != api.ErrBad {
			t.Fatalf("Decode(%x): %+v, %d", b[:512], s, e)
		}
	}
}
