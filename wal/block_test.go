package wal_test

import (
	"bytes"
	"encoding/binary"
	"hash/crc32"
	"math"
	"math/rand/v2"
	"slices"
	"strings"
	"testing"

	"bursar/api"
	"bursar/wal"
)

var castagnoli = crc32.MakeTable(crc32.Castagnoli)

// sumOf is the sum of all bytes of a block but those of its sum.
func sumOf(b []byte) uint32 {
	return crc32.Update(crc32.Checksum(b[:28], castagnoli), castagnoli, b[32:])
}

// summed gives a block the right sum.
func summed(b []byte) []byte {
	binary.LittleEndian.PutUint32(b[28:], sumOf(b))
	return b
}

// built lays a block by the chapter's table, of any numbers whatever.
func built(g api.Group, payload []byte) []byte {
	b := []byte{0xb7, 1}
	b = binary.LittleEndian.AppendUint16(b, uint16(g.Index))
	b = binary.LittleEndian.AppendUint16(b, uint16(g.Total))
	b = append(b, 0, 0)
	b = binary.LittleEndian.AppendUint64(b, uint64(g.Epoch))
	b = binary.LittleEndian.AppendUint64(b, uint64(g.Stamp))
	b = binary.LittleEndian.AppendUint32(b, uint32(g.Bytes))
	b = append(b, 0, 0, 0, 0)
	b = append(b, payload...)
	b = append(b, make([]byte, 496-len(b))...)
	b = binary.LittleEndian.AppendUint64(b, uint64(g.Epoch))
	b = binary.LittleEndian.AppendUint64(b, uint64(g.Stamp))
	return summed(b)
}

// may tells by the chapter's words whether there is such a block.
func may(g api.Group, payload int) bool {
	if g.Total < 1 || g.Total > 512 || g.Index < 0 || g.Index > g.Total-1 {
		return false
	}
	if g.Epoch < 1 || g.Epoch > 1<<60 || g.Stamp < 1 || g.Stamp > 1<<60 {
		return false
	}
	if g.Bytes <= 464*(g.Total-1) || g.Bytes > 464*g.Total {
		return false
	}
	if g.Index == g.Total-1 {
		return payload == g.Bytes-464*(g.Total-1)
	}
	return payload == 464
}

// told judges 512 bytes one part after the other.
func told(b []byte) (api.Group, []byte, bool) {
	low := binary.LittleEndian
	g := api.Group{
		Epoch: int64(low.Uint64(b[8:])), Stamp: int64(low.Uint64(b[16:])),
		Index: int(low.Uint16(b[2:])), Total: int(low.Uint16(b[4:])), Bytes: int(low.Uint32(b[24:])),
	}
	n := 464
	if g.Index == g.Total-1 {
		n = g.Bytes - 464*(g.Total-1)
	}
	if b[0] != 0xb7 || b[1] != 1 || b[6] != 0 || b[7] != 0 || !may(g, n) {
		return api.Group{}, nil, false
	}
	if low.Uint64(b[8:]) != low.Uint64(b[496:]) || low.Uint64(b[16:]) != low.Uint64(b[504:]) {
		return api.Group{}, nil, false
	}
	if low.Uint32(b[28:]) != sumOf(b) || bytes.Count(b[32+n:496], []byte{0}) != 464-n {
		return api.Group{}, nil, false
	}
	return g, b[32 : 32+n], true
}

// unblocks holds Unblock of 512 bytes against what is told.
func unblocks(t *testing.T, b []byte) bool {
	t.Helper()
	wantGroup, wantPayload, is := told(b)
	want := api.OK
	if !is {
		want = api.ErrBad
	}
	g, payload, e := wal.Unblock(b)
	if e != want || g != wantGroup || !bytes.Equal(payload, wantPayload) {
		t.Fatalf("Unblock(%x) = %+v, %x, %d, want %+v, %x, %d", b, g, payload, e, wantGroup, wantPayload, want)
	}
	if !is {
		return false
	}
	if again, e := wal.Block(g, payload); e != api.OK || !bytes.Equal(again, b) {
		t.Fatalf("Block(%+v) = %x, %d, want %x", g, again, e, b)
	}
	return true
}

func noise(random *rand.Rand, n int) []byte {
	b := make([]byte, n)
	for i := range b {
		b[i] = byte(random.Uint32())
	}
	return b
}

// serials are the edges of epochs and stamps, and of their bytes.
func serials() []int64 {
	return []int64{1, 2, 255, 256, 65535, 1 << 31, 1 << 32, 1<<56 - 1, 1<<60 - 1, 1 << 60}
}

// Example 1's block, byte by byte.
func TestBlockExample(t *testing.T) {
	one := "\x01\x00\x00\x00\x00\x00\x00\x00"
	want := summed([]byte("\xb7\x01\x00\x00\x01\x00\x00\x00" + one + one + "\x07\x00\x00\x00\x00\x00\x00\x00\x03\x00\x00\x00abc" + strings.Repeat("\x00", 457) + one + one))
	g := api.Group{Epoch: 1, Stamp: 1, Index: 0, Total: 1, Bytes: 7}
	if b, e := wal.Block(g, []byte("\x03\x00\x00\x00abc")); e != api.OK || !bytes.Equal(b, want) {
		t.Errorf("Block: %x, %d, want %x", b, e, want)
	}
	if !unblocks(t, want) {
		t.Error("it is none")
	}
	if other := built(g, []byte("\x03\x00\x00\x00abc")); !bytes.Equal(other, want) {
		t.Errorf("built: %x", other)
	}
}

// Example 6, and other lengths.
func TestUnblockOfOtherLengths(t *testing.T) {
	b := built(api.Group{Epoch: 1, Stamp: 1, Total: 1, Bytes: 464}, make([]byte, 464))
	for _, n := range []int{0, 1, 31, 32, 496, 510, 511, 513, 1024, 1 << 20} {
		c := make([]byte, n)
		copy(c, b)
		if g, p, e := wal.Unblock(c); g != (api.Group{}) || p != nil || e != api.ErrSize {
			t.Errorf("Unblock of %d bytes: %+v, %x, %d", n, g, p, e)
		}
	}
	if g, p, e := wal.Unblock(nil); g != (api.Group{}) || p != nil || e != api.ErrSize {
		t.Errorf("Unblock(nil): %+v, %x, %d", g, p, e)
	}
	for _, c := range []byte{0, 1, 0xb7, 0xff} {
		if unblocks(t, bytes.Repeat([]byte{c}, 512)) {
			t.Errorf("512 bytes %x are a block", c)
		}
	}
}

// P7.2: Block's bytes are those of the table, and Unblock tells them again: every total with its first, a middle and its last block.
func TestBackAndForth(t *testing.T) {
	random := rand.New(rand.NewPCG(7, 2))
	for total := 1; total <= 512; total++ {
		for _, index := range []int{0, random.IntN(total), total - 1} {
			for _, rest := range []int{1, 1 + random.IntN(464), 463, 464} {
				g := api.Group{Index: index, Total: total, Bytes: 464*(total-1) + rest}
				g.Epoch = serials()[random.IntN(len(serials()))]
				g.Stamp = serials()[random.IntN(len(serials()))]
				n := 464
				if index == total-1 {
					n = rest
				}
				payload := noise(random, n)
				want := built(g, payload)
				if b, e := wal.Block(g, payload); e != api.OK || !bytes.Equal(b, want) {
					t.Fatalf("Block(%+v): %x, %d, want %x", g, b, e, want)
				}
				if !unblocks(t, want) {
					t.Fatalf("%+v is none", g)
				}
			}
		}
	}
}

// P7.1: what Block takes, at all edges and beyond.
func TestWhatBlockTakes(t *testing.T) {
	far := []int{math.MinInt, -1 << 32, -464, math.MaxInt, 1 << 32, 1<<32 + 1, 1<<16 + 1}
	taken := 0
	check := func(g api.Group, n int) {
		payload := make([]byte, n)
		b, e := wal.Block(g, payload)
		if may(g, n) {
			taken++
			if e != api.OK || len(b) != 512 {
				t.Fatalf("Block(%+v, %d bytes): %d bytes, %d", g, n, len(b), e)
			}
		} else if e != api.ErrArg || b != nil {
			t.Fatalf("Block(%+v, %d bytes): %x, %d", g, n, b, e)
		}
	}
	for _, total := range append(far, -1, 0, 1, 2, 3, 511, 512, 513) {
		for _, index := range append(far, -1, 0, 1, 2, 510, 511, 512, 513, total-1, total) {
			for _, size := range append(far, -1, 0, 1, 463, 464, 465, 464*511, 464*511+1, 464*512, 464*512+1, 464*(total-1), 464*(total-1)+1, 464*total, 464*total+1) {
				for _, n := range []int{0, 1, 2, 463, 464, 465, 928} {
					check(api.Group{Epoch: 3, Stamp: 9, Index: index, Total: total, Bytes: size}, n)
				}
			}
		}
	}
	for _, a := range append(serials(), 0, -1, 1<<60+1, math.MinInt64, math.MaxInt64) {
		for _, b := range append(serials(), 0, -1, 1<<60+1, math.MinInt64, math.MaxInt64) {
			check(api.Group{Epoch: a, Stamp: b, Total: 1, Bytes: 8}, 8)
		}
	}
	if taken < 150 {
		t.Errorf("only %d were taken", taken)
	}
	if b, e := wal.Block(api.Group{Epoch: 1, Stamp: 1, Total: 1, Bytes: 0}, nil); b != nil || e != api.ErrArg {
		t.Errorf("Block of no payload: %x, %d", b, e)
	}
}

// someBlocks are blocks of every kind: the only one, the first, a middle and the last one; full and not.
func someBlocks(random *rand.Rand) [][]byte {
	var l [][]byte
	for _, g := range []api.Group{
		{Epoch: 1, Stamp: 1, Total: 1, Bytes: 7},
		{Epoch: 2, Stamp: 300, Total: 1, Bytes: 464},
		{Epoch: 1 << 60, Stamp: 1 << 60, Index: 0, Total: 3, Bytes: 929},
		{Epoch: 70000, Stamp: 1 << 40, Index: 1, Total: 3, Bytes: 1000},
		{Epoch: 255, Stamp: 256, Index: 2, Total: 3, Bytes: 1300},
		{Epoch: 1, Stamp: 512, Index: 511, Total: 512, Bytes: 464*511 + 1},
	} {
		n := min(464, g.Bytes-464*g.Index)
		l = append(l, built(g, noise(random, n)))
	}
	return l
}

// Whatever one byte of a block becomes, with the right sum for it: it is what the table says.
func TestEveryByteWithItsSum(t *testing.T) {
	random := rand.New(rand.NewPCG(7, 3))
	taken := 0
	for _, block := range someBlocks(random) {
		for at := range block {
			for bit := range 8 {
				for _, other := range []byte{block[at] ^ 1<<bit, byte(random.Uint32())} {
					b := slices.Clone(block)
					b[at] = other
					if unblocks(t, b) != (other == block[at]) {
						t.Fatalf("byte %d: changed without its sum, it is a block", at)
					}
					if unblocks(t, summed(b)) {
						taken++
					}
				}
			}
		}
	}
	if taken < 1000 {
		t.Errorf("only %d were taken", taken)
	}
}

// Blocks of all numbers that aren't said to be, with the right sum; the epoch or stamp at the end alone, too.
func TestForged(t *testing.T) {
	random := rand.New(rand.NewPCG(7, 4))
	numbers := []uint64{0, 1, 2, 3, 255, 256, 463, 464, 465, 511, 512, 513, 928, 1<<16 - 1, 1<<32 - 1, 1<<60 - 1, 1 << 60, 1<<60 + 1, 1 << 63, 1<<64 - 1}
	fields := []struct{ at, n int }{{2, 2}, {4, 2}, {6, 2}, {8, 8}, {16, 8}, {24, 4}, {496, 8}, {504, 8}}
	taken := 0
	for range 30000 {
		b := slices.Clone(someBlocks(random)[random.IntN(6)])
		for range 1 + random.IntN(3) {
			f := fields[random.IntN(len(fields))]
			number := binary.LittleEndian.AppendUint64(nil, numbers[random.IntN(len(numbers))])
			copy(b[f.at:f.at+f.n], number)
			if random.IntN(2) == 0 {
				copy(b[496:], b[8:24])
			}
		}
		if unblocks(t, summed(b)) {
			taken++
		}
	}
	if taken < 300 {
		t.Errorf("only %d were taken", taken)
	}
}

// P7.5: bursts at every place, of every length up to 32 bits.
func TestBursts(t *testing.T) {
	random := rand.New(rand.NewPCG(7, 5))
	areas := []struct{ from, to int }{{0, 28 * 8}, {28 * 8, 32 * 8}, {32 * 8, 512 * 8}}
	for _, block := range someBlocks(random) {
		for _, area := range areas {
			for at := area.from; at < area.to; at++ {
				for range 4 {
					length := 1 + random.IntN(min(32, area.to-at))
					b := slices.Clone(block)
					for i := range length {
						if i == 0 || i == length-1 || random.IntN(2) == 0 {
							b[(at+i)/8] ^= 1 << ((at + i) % 8)
						}
					}
					if g, p, e := wal.Unblock(b); g != (api.Group{}) || p != nil || e != api.ErrBad {
						t.Fatalf("a burst of %d bits from bit %d on: %+v, %x, %d", length, at, g, p, e)
					}
				}
			}
		}
	}
}

// P7.6: Block and Unblock keep nothing, change nothing, and share nothing.
func TestBlocksShareNothing(t *testing.T) {
	random := rand.New(rand.NewPCG(7, 6))
	for _, n := range []int{5, 464} {
		g := api.Group{Epoch: 4, Stamp: 5, Total: 1, Bytes: n}
		room := noise(random, 1024)
		was := slices.Clone(room)
		b, _ := wal.Block(g, room[:n])
		if !bytes.Equal(room, was) {
			t.Error("Block changed what it was handed")
		}
		want := slices.Clone(b)
		clear(room)
		other, _ := wal.Block(g, was[:n])
		if !bytes.Equal(b, want) || !bytes.Equal(other, want) {
			t.Error("Block keeps what it was handed")
		}
		clear(other)
		wide := append(slices.Clone(b), noise(random, 512)...)
		wideWas := slices.Clone(wide)
		_, payload, _ := wal.Unblock(wide[:512])
		_, second, _ := wal.Unblock(wide[:512])
		clear(payload)
		_ = append(payload, 1, 2, 3)
		if !bytes.Equal(wide, wideWas) || !bytes.Equal(second, was[:n]) {
			t.Error("Unblock's payload is shared")
		}
		clear(wide)
		if !bytes.Equal(second, was[:n]) {
			t.Error("Unblock's payload is the block's")
		}
	}
}
