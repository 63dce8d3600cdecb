package anchor_test

import (
	"encoding/binary"
	"hash/crc32"
	"math"
	"math/rand/v2"
	"slices"
	"testing"

	"bursar/anchor"
	"bursar/api"
	"bursar/dev"
)

const top = 1<<60 - 1<<32

var castagnoli = crc32.MakeTable(crc32.Castagnoli)

// super is example 1's, with this generation.
func super(generation int64) api.Super {
	return api.Super{Generation: generation, Epoch: 1, Blocks: 64, Log: 8, From: api.Mark{Stamp: 1}}
}

// rooted is a superblock of a tree that isn't empty.
func rooted(generation int64) api.Super {
	s := super(generation)
	s.Root, s.Count, s.Version = 12, 3, 5
	return s
}

// greatest has the greatest numbers that may be.
func greatest() api.Super {
	return api.Super{Generation: top, Epoch: top, Blocks: 4096, Log: 512, From: api.Mark{Stamp: top, At: (top - 1) % 512}, Root: 4095, Count: top, Version: top}
}

func device(t *testing.T, blocks int) *dev.Dev {
	t.Helper()
	d, e := dev.New(blocks)
	if e != api.OK {
		t.Fatalf("New(%d): %d", blocks, e)
	}
	return d
}

func reads(t *testing.T, d *dev.Dev, want api.Super, block int) {
	t.Helper()
	if s, n, e := anchor.Read(d); s != want || n != block || e != api.OK {
		t.Errorf("Read: %+v, %d, %d, want %+v, %d", s, n, e, want, block)
	}
}

func readsNone(t *testing.T, d *dev.Dev, want api.Errno) {
	t.Helper()
	if s, n, e := anchor.Read(d); s != (api.Super{}) || n != 0 || e != want {
		t.Errorf("Read: %+v, %d, %d, want %d", s, n, e, want)
	}
}

func writes(t *testing.T, d *dev.Dev, s api.Super, want api.Errno) {
	t.Helper()
	if e := anchor.Write(d, s); e != want {
		t.Errorf("Write(%+v): %d, want %d", s, e, want)
	}
}

func torn(at int) api.Fate { return api.Fate{Kind: api.Torn, At: at} }

// sumOf is the sum of all bytes of a superblock but those of its sum.
func sumOf(b []byte) uint32 {
	return crc32.Update(crc32.Checksum(b[:500], castagnoli), castagnoli, b[504:])
}

// sumIn is the sum that a superblock names.
func sumIn(b []byte) uint32 { return binary.LittleEndian.Uint32(b[500:]) }

// summed gives a superblock the right sum.
func summed(b []byte) []byte {
	binary.LittleEndian.PutUint32(b[500:], sumOf(b))
	return b
}

// built lays a superblock by the chapter's table, of any numbers whatever.
func built(s api.Super) []byte {
	low := binary.LittleEndian
	b := []byte{0x42, 0x53, 0x41, 0x52, 1, 0, 0, 0}
	b = low.AppendUint64(b, uint64(s.Generation))
	b = low.AppendUint64(b, uint64(s.Epoch))
	b = low.AppendUint32(b, uint32(s.Blocks))
	b = low.AppendUint32(b, uint32(s.Log))
	b = low.AppendUint64(b, uint64(s.From.Stamp))
	b = low.AppendUint32(b, uint32(s.From.At))
	b = low.AppendUint32(b, uint32(s.Root))
	b = low.AppendUint64(b, uint64(s.Count))
	b = low.AppendUint64(b, uint64(s.Version))
	b = append(b, make([]byte, 440)...)
	b = low.AppendUint64(b, uint64(s.Generation))
	return summed(b)
}

// may tells by the chapter's words whether a superblock is valid.
func may(s api.Super, blocks int) bool {
	if s.Blocks != blocks || blocks < 64 || blocks > 4096 {
		return false
	}
	if s.Log < 8 || s.Log > 512 || s.Log > blocks-42 {
		return false
	}
	for _, number := range []int64{s.Generation, s.Epoch, s.From.Stamp} {
		if number < 1 || number > top {
			return false
		}
	}
	if s.Version < 0 || s.Version > top {
		return false
	}
	place := s.From.Stamp - 1
	place -= place / int64(s.Log) * int64(s.Log)
	if int64(s.From.At) != place {
		return false
	}
	switch {
	case s.Root == 0:
		return s.Count == 0
	case s.Root < 2+s.Log, s.Root > blocks-1:
		return false
	}
	return s.Count >= 1 && s.Count <= top
}

// says tells by the chapter's words what 512 bytes say, and whether they are a superblock's.
func says(b []byte) (api.Super, bool) {
	low := binary.LittleEndian
	s := api.Super{
		Generation: int64(low.Uint64(b[8:])), Epoch: int64(low.Uint64(b[16:])),
		Blocks: int(low.Uint32(b[24:])), Log: int(low.Uint32(b[28:])),
		From: api.Mark{Stamp: int64(low.Uint64(b[32:])), At: int(low.Uint32(b[40:]))},
		Root: int(low.Uint32(b[44:])), Count: int64(low.Uint64(b[48:])), Version: int64(low.Uint64(b[56:])),
	}
	is := string(b[:8]) == "BSAR\x01\x00\x00\x00" && may(s, s.Blocks)
	is = is && !slices.ContainsFunc(b[64:500], func(c byte) bool { return c != 0 })
	is = is && low.Uint32(b[500:]) == sumOf(b) && slices.Equal(b[504:], b[8:16])
	if !is {
		return api.Super{}, false
	}
	return s, true
}

// decodes asks of Decode what the model tells of 512 bytes, and of Encode that it gives them again (P11.2): whether they are a superblock's.
func decodes(t *testing.T, b []byte) bool {
	t.Helper()
	want, is := says(b)
	s, e := anchor.Decode(b)
	if !is {
		if s != (api.Super{}) || e != api.ErrBad {
			t.Fatalf("Decode(%x): %+v, %d", b, s, e)
		}
		return false
	}
	if s != want || e != api.OK {
		t.Fatalf("Decode(%x): %+v, %d, want %+v", b, s, e, want)
	}
	if again, e := anchor.Encode(s); e != api.OK || !slices.Equal(again, b) {
		t.Fatalf("Encode(%+v): %x, %d, want %x", s, again, e, b)
	}
	return true
}

// holds asks of Valid, Encode and Decode what the model tells of a superblock: whether it is valid.
func holds(t *testing.T, s api.Super, blocks int) bool {
	t.Helper()
	valid := may(s, blocks)
	if anchor.Valid(s, blocks) != valid {
		t.Fatalf("Valid(%+v, %d) isn't %t", s, blocks, valid)
	}
	b, e := anchor.Encode(s)
	if !may(s, s.Blocks) {
		if b != nil || e != api.ErrArg {
			t.Fatalf("Encode(%+v): %x, %d", s, b, e)
		}
		return valid
	}
	if e != api.OK || !slices.Equal(b, built(s)) {
		t.Fatalf("Encode(%+v): %x, %d, want %x", s, b, e, built(s))
	}
	if back, e := anchor.Decode(b); e != api.OK || back != s {
		t.Fatalf("Decode(%x): %+v, %d, want %+v", b, back, e, s)
	}
	return valid
}

// someSuper is any valid superblock of a device of so many blocks.
func someSuper(random *rand.Rand, blocks int) api.Super {
	s := api.Super{Blocks: blocks, Log: 8 + random.IntN(min(512, blocks-42)-7)}
	s.Generation, s.Epoch, s.From.Stamp = someSerial(random), someSerial(random), someSerial(random)
	s.From.At = int((s.From.Stamp - 1) % int64(s.Log))
	s.Version = someSerial(random) - int64(random.IntN(2))
	if random.IntN(3) > 0 {
		s.Root, s.Count = 2+s.Log+random.IntN(blocks-2-s.Log), someSerial(random)
	}
	return s
}

// someSerial is a number from 1 to Top, of any length.
func someSerial(random *rand.Rand) int64 {
	return min(top, 1+random.Int64N(1<<(1+random.IntN(60))))
}

// wrongs are numbers that may stand nowhere, or at few places.
func wrongs() []int64 {
	return []int64{math.MinInt64, -1 << 32, -64, -1, 0, 1, 2, 7, 1 << 32, 1<<32 + 1, 1<<32 + 64, 1<<60 - 1, 1 << 60, top, top + 1, math.MaxInt64}
}
