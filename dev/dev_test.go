package dev_test

import (
	"bytes"
	"math"
	"math/rand/v2"
	"slices"
	"testing"

	"bursar/api"
	"bursar/dev"
)

func full(b byte) []byte { return bytes.Repeat([]byte{b}, 512) }

// laid is a block of bytes 0 over which runs of bytes were laid, each from the block's beginning on.
func laid(runs ...[]byte) []byte {
	b := full(0)
	for _, run := range runs {
		copy(b, run)
	}
	return b
}

func run(b byte, n int) []byte { return bytes.Repeat([]byte{b}, n) }

func keptAll(n int) []api.Fate { return slices.Repeat([]api.Fate{{Kind: api.Kept}}, n) }

func made(t *testing.T, blocks int) *dev.Dev {
	t.Helper()
	d, e := dev.New(blocks)
	if d == nil || e != api.OK {
		t.Fatalf("New(%d): %d", blocks, e)
	}
	return d
}

func of(t *testing.T, medium []byte) *dev.Dev {
	t.Helper()
	d, e := dev.Of(medium)
	if d == nil || e != api.OK {
		t.Fatalf("Of(%d bytes): %d", len(medium), e)
	}
	return d
}

func write(t *testing.T, d *dev.Dev, block int, b byte) {
	t.Helper()
	answers(t, "Write", d.Write(block, full(b)), api.OK)
}

func answers(t *testing.T, call string, e, want api.Errno) {
	t.Helper()
	if e != want {
		t.Errorf("%s: %d, want %d", call, e, want)
	}
}

func reads(t *testing.T, d *dev.Dev, block int, want []byte) {
	t.Helper()
	if b, e := d.Read(block); e != api.OK || !bytes.Equal(b, want) {
		t.Errorf("Read(%d) = %x, %d, want %x", block, b, e, want)
	}
}

func lies(t *testing.T, d *dev.Dev, block int, want []byte) {
	t.Helper()
	if b, e := d.Raw(block); e != api.OK || !bytes.Equal(b, want) {
		t.Errorf("Raw(%d) = %x, %d, want %x", block, b, e, want)
	}
}

func waits(t *testing.T, d *dev.Dev, want ...int) {
	t.Helper()
	if blocks := d.Pending(); !slices.Equal(blocks, want) {
		t.Errorf("Pending: %v, want %v", blocks, want)
	}
}

func crashes(t *testing.T, d *dev.Dev, want int, fates ...api.Fate) {
	t.Helper()
	if n := d.Crash(fates); n != want {
		t.Errorf("Crash(%v) = %d, want %d", fates, n, want)
	}
	waits(t, d)
	if d.Down() {
		t.Errorf("down behind Crash(%v)", fates)
	}
}

func counts(t *testing.T, d *dev.Dev, want api.Counts) {
	t.Helper()
	if c := d.Counts(); c != want {
		t.Errorf("Counts: %v, want %v", c, want)
	}
}

// P6.1: the sizes that New and Of take.
func TestSizes(t *testing.T) {
	for _, n := range []int{math.MinInt, -64, -1, 0, 1, 63, 4097, 8192, 1 << 40, math.MaxInt} {
		if d, e := dev.New(n); d != nil || e != api.ErrArg {
			t.Errorf("New(%d): %d", n, e)
		}
	}
	for _, n := range []int{0, 1, 64, 512, 512 * 63, 32767, 32769, 32768 + 256, 512*4096 - 1, 512*4096 + 1, 512 * 4097, 512 * 8192} {
		if d, e := dev.Of(make([]byte, n)); d != nil || e != api.ErrSize {
			t.Errorf("Of(%d bytes): %d", n, e)
		}
	}
	if d, e := dev.Of(nil); d != nil || e != api.ErrSize {
		t.Errorf("Of(nil): %d", e)
	}
	for _, n := range []int{64, 65, 1000, 4095, 4096} {
		medium := make([]byte, 512*n)
		d := made(t, n)
		if d.Blocks() != n || !bytes.Equal(d.Medium(), medium) {
			t.Errorf("New(%d): %d blocks", n, d.Blocks())
		}
		asAtTheBeginning(t, d)
		for i := range medium {
			medium[i] = byte(i ^ i>>9)
		}
		d = of(t, medium)
		if d.Blocks() != n || !bytes.Equal(d.Medium(), medium) {
			t.Errorf("Of(%d blocks): %d blocks", n, d.Blocks())
		}
		asAtTheBeginning(t, d)
		reads(t, d, n-1, medium[512*(n-1):])
	}
}

func asAtTheBeginning(t *testing.T, d *dev.Dev) {
	t.Helper()
	waits(t, d)
	counts(t, d, api.Counts{})
	if d.Down() {
		t.Error("it is down at the beginning")
	}
	for range 100 {
		answers(t, "Flush of a device that isn't armed", d.Flush(), api.OK)
	}
}

// P6.1: example 1, and numbers far off.
func TestWrongNumbers(t *testing.T) {
	d := made(t, 64)
	reads(t, d, 0, full(0))
	for _, block := range []int{math.MinInt, -64, -1, 64, 65, 4096, 1 << 32, math.MaxInt} {
		b, e := d.Read(block)
		c, f := d.Raw(block)
		if b != nil || c != nil {
			t.Errorf("block %d: %x, %x", block, b, c)
		}
		answers(t, "Read", e, api.ErrBlock)
		answers(t, "Raw", f, api.ErrBlock)
		answers(t, "Write of no block and no bytes", d.Write(block, nil), api.ErrBlock)
		answers(t, "Write of no block", d.Write(block, full(1)), api.ErrBlock)
		answers(t, "Edit of no block and no place", d.Edit(block, -1, full(1)), api.ErrBlock)
		answers(t, "Edit of no block", d.Edit(block, 0, nil), api.ErrBlock)
	}
	for _, n := range []int{0, 1, 511, 513, 1024, 1 << 20} {
		answers(t, "Write of another length", d.Write(3, make([]byte, n)), api.ErrSize)
	}
	for _, n := range []int{-1, -2, math.MinInt} {
		answers(t, "Arm below 0", d.Arm(n), api.ErrArg)
	}
	counts(t, d, api.Counts{Reads: 1})
	waits(t, d)
}

// Example 2: a write lies in the cache until the flush.
func TestFlushExample(t *testing.T) {
	d := made(t, 64)
	write(t, d, 5, 1)
	reads(t, d, 5, full(1))
	lies(t, d, 5, full(0))
	waits(t, d, 5)
	answers(t, "Flush", d.Flush(), api.OK)
	lies(t, d, 5, full(1))
	waits(t, d)
	counts(t, d, api.Counts{Reads: 1, Writes: 1, Flushes: 1})
}

// Examples 3 and 4, and fates that are none.
func TestCrashExamples(t *testing.T) {
	d := made(t, 64)
	write(t, d, 5, 1)
	write(t, d, 6, 2)
	write(t, d, 5, 3)
	waits(t, d, 5, 6, 5)
	crashes(t, d, 2, api.Fate{Kind: api.Torn, At: 100}, api.Fate{Kind: api.Dropped}, api.Fate{Kind: api.Torn, At: 2})
	lies(t, d, 5, laid(run(1, 100), run(3, 2)))
	lies(t, d, 6, full(0))

	d = made(t, 64)
	for _, c := range []struct {
		b    byte
		fate api.Fate
		n    int
		want []byte
	}{
		{1, api.Fate{Kind: api.Torn, At: 0}, 1, full(0)},
		{1, api.Fate{Kind: api.Torn, At: -1}, 1, full(0)},
		{1, api.Fate{Kind: api.Torn, At: math.MinInt}, 1, full(0)},
		{1, api.Fate{Kind: api.Torn, At: 1}, 1, laid(run(1, 1))},
		{2, api.Fate{Kind: api.Torn, At: 511}, 1, laid(run(2, 511))},
		{1, api.Fate{Kind: api.Torn, At: 600}, 1, full(1)},
		{2, api.Fate{Kind: api.Torn, At: 512}, 1, full(2)},
		{1, api.Fate{Kind: api.Torn, At: math.MaxInt}, 1, full(1)},
		{2, api.Fate{Kind: api.Kept, At: -9}, 1, full(2)},
		{3, api.Fate{Kind: 7, At: 9}, 0, full(2)},
		{3, api.Fate{Kind: 3, At: 512}, 0, full(2)},
		{3, api.Fate{Kind: -1, At: 512}, 0, full(2)},
		{3, api.Fate{Kind: math.MinInt, At: 512}, 0, full(2)},
		{3, api.Fate{Kind: math.MaxInt, At: 512}, 0, full(2)},
		{3, api.Fate{Kind: api.Dropped, At: 512}, 0, full(2)},
	} {
		write(t, d, 5, c.b)
		crashes(t, d, c.n, c.fate)
		lies(t, d, 5, c.want)
		reads(t, d, 5, c.want)
	}
	write(t, d, 5, 3)
	crashes(t, d, 0)
	lies(t, d, 5, full(2))
	crashes(t, d, 0, keptAll(1000)...)
	lies(t, d, 5, full(2))
}

// Example 5: a device that goes down.
func TestArmExample(t *testing.T) {
	d := made(t, 64)
	answers(t, "Arm(1)", d.Arm(1), api.OK)
	write(t, d, 5, 1)
	if d.Down() {
		t.Error("down by the last act")
	}
	answers(t, "Flush", d.Flush(), api.ErrDown)
	if !d.Down() {
		t.Error("not down")
	}
	if b, e := d.Read(5); b != nil || e != api.ErrDown {
		t.Errorf("Read(5) = %x, %d", b, e)
	}
	lies(t, d, 5, full(0))
	waits(t, d, 5)
	answers(t, "Arm(3)", d.Arm(3), api.ErrDown)
	crashes(t, d, 1, api.Fate{Kind: api.Kept})
	reads(t, d, 5, full(1))
	answers(t, "Arm(-1)", d.Arm(-1), api.ErrArg)
	answers(t, "Arm(0)", d.Arm(0), api.OK)
	answers(t, "Write of no bytes", d.Write(5, nil), api.ErrSize)
	if d.Down() {
		t.Error("down by a write of no bytes")
	}
	answers(t, "Write", d.Write(5, full(1)), api.ErrDown)
	waits(t, d)
	counts(t, d, api.Counts{Reads: 1, Writes: 1})
}

// Example 6, and the other edges of a block.
func TestEdit(t *testing.T) {
	d := made(t, 64)
	write(t, d, 5, 1)
	answers(t, "Edit", d.Edit(5, 0, []byte{9, 9}), api.OK)
	reads(t, d, 5, full(1))
	lies(t, d, 5, laid(run(9, 2)))
	waits(t, d, 5)
	answers(t, "Flush", d.Flush(), api.OK)
	lies(t, d, 5, full(1))
	for _, c := range []struct {
		at, n int
		want  api.Errno
	}{
		{511, 2, api.ErrArg}, {512, 0, api.OK}, {513, 0, api.ErrArg}, {-1, 0, api.ErrArg}, {-1, 1, api.ErrArg}, {0, 513, api.ErrArg},
		{1, 512, api.ErrArg}, {512, 1, api.ErrArg}, {-1, 513, api.ErrArg}, {0, 1 << 20, api.ErrArg}, {-1 << 20, 1 << 20, api.ErrArg},
		{math.MaxInt, 0, api.ErrArg}, {math.MaxInt, 1, api.ErrArg}, {math.MaxInt, 512, api.ErrArg}, {math.MinInt, 0, api.ErrArg},
		{math.MinInt, 600, api.ErrArg}, {math.MaxInt - 511, 512, api.ErrArg}, {0, 0, api.OK},
	} {
		answers(t, "Edit", d.Edit(5, c.at, make([]byte, c.n)), c.want)
		lies(t, d, 5, full(1))
	}
	answers(t, "Edit of the last byte", d.Edit(5, 511, []byte{7}), api.OK)
	lies(t, d, 5, append(run(1, 511), 7))
	answers(t, "Edit in the middle", d.Edit(5, 1, run(8, 509)), api.OK)
	lies(t, d, 5, append(append(run(1, 1), run(8, 509)...), 1, 7))
	answers(t, "Edit of all", d.Edit(5, 0, full(6)), api.OK)
	lies(t, d, 5, full(6))
	reads(t, d, 5, full(6))
	lies(t, d, 4, full(0))
	lies(t, d, 6, full(0))
	counts(t, d, api.Counts{Reads: 2, Writes: 1, Flushes: 1})
}

// An edit is no act, and a device that is down has it too; a torn write leaves the edited bytes that it doesn't reach.
func TestEditOfDown(t *testing.T) {
	d := made(t, 64)
	write(t, d, 5, 1)
	answers(t, "Arm(0)", d.Arm(0), api.OK)
	answers(t, "Edit", d.Edit(5, 0, full(3)), api.OK)
	if d.Down() {
		t.Error("down by an edit")
	}
	answers(t, "Flush", d.Flush(), api.ErrDown)
	answers(t, "Edit of a device that is down", d.Edit(5, 0, run(4, 10)), api.OK)
	answers(t, "Edit at no place", d.Edit(5, 513, nil), api.ErrArg)
	lies(t, d, 5, append(run(4, 10), run(3, 502)...))
	waits(t, d, 5)
	crashes(t, d, 1, api.Fate{Kind: api.Torn, At: 5})
	lies(t, d, 5, append(append(run(1, 5), run(4, 5)...), run(3, 502)...))
}

// Example 7.
func TestOfExample(t *testing.T) {
	d := of(t, bytes.Repeat([]byte{7}, 32768))
	counts(t, d, api.Counts{})
	if d.Blocks() != 64 {
		t.Errorf("%d blocks", d.Blocks())
	}
	for block := range 64 {
		lies(t, d, block, full(7))
		reads(t, d, block, full(7))
	}
}

// fates are some of each kind, with the edges of a torn write.
func fates() []api.Fate {
	return []api.Fate{
		{Kind: api.Dropped, At: 300}, {Kind: api.Kept}, {Kind: 9, At: 300},
		{Kind: api.Torn, At: -1}, {Kind: api.Torn, At: 0}, {Kind: api.Torn, At: 1}, {Kind: api.Torn, At: 300}, {Kind: api.Torn, At: 512},
	}
}

// reach tells how many bytes of a write a fate leaves.
func reach(fate api.Fate) int {
	switch {
	case fate.Kind == api.Kept:
		return 512
	case fate.Kind == api.Torn:
		return min(512, max(0, fate.At))
	}
	return 0
}

func counted(fate api.Fate) int {
	if fate.Kind == api.Kept || fate.Kind == api.Torn {
		return 1
	}
	return 0
}

// P6.2: all lists of three writes to two blocks and of their fates, asked byte by byte.
func TestWhatACrashLeaves(t *testing.T) {
	d := made(t, 64)
	for _, a := range fates() {
		for _, b := range fates() {
			for _, c := range fates() {
				for blocks := range 8 {
					checkCrash(t, d, blocks, []api.Fate{a, b, c})
				}
			}
		}
		if t.Failed() {
			return
		}
	}
}

// checkCrash writes bytes 1, 2 and 3 over bytes 9, in a block that the bits tell.
func checkCrash(t *testing.T, d *dev.Dev, blocks int, fates []api.Fate) {
	t.Helper()
	want := [2][]byte{full(9), full(9)}
	d.Edit(20, 0, full(9))
	d.Edit(21, 0, full(9))
	n := 0
	for i, fate := range fates {
		block := blocks >> i & 1
		write(t, d, 20+block, byte(i+1))
		n += counted(fate)
		for at := range reach(fate) {
			want[block][at] = byte(i + 1)
		}
	}
	crashes(t, d, n, fates...)
	lies(t, d, 20, want[0])
	lies(t, d, 21, want[1])
	reads(t, d, 20, want[0])
	reads(t, d, 21, want[1])
	lies(t, d, 19, full(0))
	lies(t, d, 22, full(0))
}

// P6.3: what was flushed stays, whatever becomes of other writes.
func TestWhatWasFlushedStays(t *testing.T) {
	random := rand.New(rand.NewPCG(1, 2))
	d := made(t, 64)
	for range 200 {
		for range random.IntN(20) {
			write(t, d, random.IntN(64), byte(random.IntN(256)))
		}
		var ahead [64][]byte
		for block := range ahead {
			ahead[block], _ = d.Read(block)
		}
		answers(t, "Flush", d.Flush(), api.OK)
		waits(t, d)
		written := map[int]bool{}
		for round := range 3 {
			for range round * 10 {
				block := random.IntN(64)
				written[block] = true
				write(t, d, block, byte(random.IntN(256)))
			}
			if random.IntN(2) == 0 {
				d.Arm(0)
				answers(t, "Flush", d.Flush(), api.ErrDown)
			}
			for block := range ahead {
				if round == 0 || !written[block] {
					lies(t, d, block, ahead[block])
				}
			}
			d.Crash(randomFates(random, 20))
			for block := range ahead {
				if !written[block] {
					lies(t, d, block, ahead[block])
				}
			}
		}
		if t.Failed() {
			return
		}
	}
}

func randomFates(random *rand.Rand, most int) []api.Fate {
	list := make([]api.Fate, random.IntN(most+1))
	for i := range list {
		list[i] = fates()[random.IntN(len(fates()))]
		if random.IntN(3) == 0 {
			list[i] = api.Fate{Kind: random.IntN(6) - 1, At: random.IntN(600) - 40}
		}
	}
	return list
}

// P6.4: armed with n, for all orders of writes and flushes, with calls between them that are no acts.
func TestArmedActs(t *testing.T) {
	for n := range 7 {
		for acts := range 1 << (n + 1) {
			d := made(t, 64)
			write(t, d, 9, 5)
			answers(t, "Arm", d.Arm(100), api.OK)
			answers(t, "Arm once more", d.Arm(n), api.OK)
			pending := []int{9}
			for i := range n {
				noActs(t, d)
				pending = does(t, d, acts>>i&1 == 1, pending, api.OK)
			}
			noActs(t, d)
			if d.Down() {
				t.Fatalf("armed with %d: down behind %d acts", n, n)
			}
			before := d.Medium()
			does(t, d, acts>>n&1 == 1, pending, api.ErrDown)
			if !d.Down() || !slices.Equal(d.Pending(), pending) || !bytes.Equal(d.Medium(), before) {
				t.Fatalf("armed with %d, acts %b: the act behind the last", n, acts)
			}
			isDown(t, d)
			if !slices.Equal(d.Pending(), pending) || !bytes.Equal(d.Medium(), before) {
				t.Fatalf("armed with %d, acts %b: changed while it is down", n, acts)
			}
			crashes(t, d, len(pending), keptAll(len(pending))...)
			isUp(t, d)
			if t.Failed() {
				return
			}
		}
	}
}

// does asks for one act, and tells which blocks then wait.
func does(t *testing.T, d *dev.Dev, flush bool, pending []int, want api.Errno) []int {
	t.Helper()
	if flush {
		answers(t, "Flush", d.Flush(), want)
		pending = nil
	} else {
		answers(t, "Write", d.Write(7, full(8)), want)
		pending = append(slices.Clone(pending), 7)
	}
	if want == api.OK {
		waits(t, d, pending...)
	}
	return pending
}

// noActs are calls that leave an armed device with the acts that it had.
func noActs(t *testing.T, d *dev.Dev) {
	t.Helper()
	d.Read(9)
	d.Raw(9)
	d.Pending()
	d.Medium()
	answers(t, "Edit", d.Edit(30, 0, full(1)), api.OK)
	answers(t, "Write of no block", d.Write(64, full(1)), api.ErrBlock)
	answers(t, "Write of no bytes", d.Write(1, nil), api.ErrSize)
	answers(t, "Arm below 0", d.Arm(-1), api.ErrArg)
}

func isDown(t *testing.T, d *dev.Dev) {
	t.Helper()
	before := d.Counts()
	for range 3 {
		b, e := d.Read(9)
		if b != nil {
			t.Errorf("Read of a device that is down: %x", b)
		}
		answers(t, "Read", e, api.ErrDown)
		_, e = d.Read(64)
		answers(t, "Read of no block", e, api.ErrBlock)
		answers(t, "Write", d.Write(9, full(1)), api.ErrDown)
		answers(t, "Write of no block", d.Write(-1, full(1)), api.ErrBlock)
		answers(t, "Write of no bytes", d.Write(9, nil), api.ErrSize)
		answers(t, "Flush", d.Flush(), api.ErrDown)
		answers(t, "Arm", d.Arm(5), api.ErrDown)
		answers(t, "Arm(0)", d.Arm(0), api.ErrDown)
		answers(t, "Arm below 0", d.Arm(-1), api.ErrArg)
		if !d.Down() {
			t.Error("it isn't down any more")
		}
	}
	counts(t, d, before)
}

func isUp(t *testing.T, d *dev.Dev) {
	t.Helper()
	for i := range 20 {
		write(t, d, i, 3)
		answers(t, "Flush", d.Flush(), api.OK)
		reads(t, d, i, full(3))
	}
	answers(t, "Arm", d.Arm(1), api.OK)
	answers(t, "Flush", d.Flush(), api.OK)
	answers(t, "Flush", d.Flush(), api.ErrDown)
}

// A crash of a device that is up takes the arming away, too.
func TestCrashDisarms(t *testing.T) {
	for n := range 3 {
		d := made(t, 64)
		answers(t, "Arm", d.Arm(n), api.OK)
		crashes(t, d, 0)
		isUp(t, d)
	}
}

func TestArmGreat(t *testing.T) {
	d := made(t, 64)
	answers(t, "Arm", d.Arm(math.MaxInt), api.OK)
	for range 1000 {
		answers(t, "Flush", d.Flush(), api.OK)
	}
	counts(t, d, api.Counts{Flushes: 1000})
}

// P6.5: of two devices with the same acts, refused calls make no difference, not in the cache's bytes either.
func TestRefusedChangesNothing(t *testing.T) {
	for _, down := range []bool{false, true} {
		for number := range 8 {
			d, twin := made(t, 64), made(t, 64)
			for _, each := range []*dev.Dev{d, twin} {
				write(t, each, 9, 1)
				answers(t, "Flush", each.Flush(), api.OK)
				for i := range 8 {
					write(t, each, 9+i%2, byte(i+2))
				}
				if down {
					answers(t, "Arm", each.Arm(0), api.OK)
					answers(t, "Write", each.Write(9, full(77)), api.ErrDown)
				}
			}
			refused(t, d)
			if !slices.Equal(d.Pending(), twin.Pending()) || !bytes.Equal(d.Medium(), twin.Medium()) || d.Counts() != twin.Counts() || d.Down() != twin.Down() {
				t.Fatalf("down: %v: refused calls changed it", down)
			}
			fates := make([]api.Fate, 8)
			fates[number].Kind = api.Kept
			crashes(t, d, 1, fates...)
			crashes(t, twin, 1, fates...)
			if !bytes.Equal(d.Medium(), twin.Medium()) {
				t.Fatalf("down: %v: refused calls changed write %d", down, number)
			}
		}
	}
}

// refused are calls that a device refuses; what it refuses just if it is down, it is asked for just then.
func refused(t *testing.T, d *dev.Dev) {
	t.Helper()
	for _, block := range []int{-1, 64} {
		answers(t, "Write", d.Write(block, full(99)), api.ErrBlock)
		answers(t, "Edit", d.Edit(block, 0, full(99)), api.ErrBlock)
	}
	answers(t, "Write", d.Write(9, make([]byte, 511)), api.ErrSize)
	answers(t, "Write", d.Write(9, bytes.Repeat([]byte{99}, 513)), api.ErrSize)
	answers(t, "Edit", d.Edit(9, -1, full(99)), api.ErrArg)
	answers(t, "Edit", d.Edit(9, 1, full(99)), api.ErrArg)
	answers(t, "Arm", d.Arm(-1), api.ErrArg)
	if d.Down() {
		answers(t, "Write", d.Write(9, full(99)), api.ErrDown)
		answers(t, "Flush", d.Flush(), api.ErrDown)
		answers(t, "Arm", d.Arm(1), api.ErrDown)
	}
}

// P6.6: the medium carried away is as it was, whatever is done to either device; a crash without fates leaves just it.
func TestCarriedAway(t *testing.T) {
	random := rand.New(rand.NewPCG(3, 4))
	d := made(t, 64)
	for range 100 {
		for range random.IntN(30) {
			write(t, d, random.IntN(64), byte(random.IntN(256)))
		}
		answers(t, "Edit", d.Edit(random.IntN(64), random.IntN(512), []byte{byte(random.IntN(256))}), api.OK)
		medium := d.Medium()
		other := of(t, medium)
		for block := range 64 {
			lies(t, d, block, medium[512*block:][:512])
			lies(t, other, block, medium[512*block:][:512])
			reads(t, other, block, medium[512*block:][:512])
		}
		left := of(t, medium)
		write(t, left, 3, 3)
		crashes(t, left, 0)
		if !bytes.Equal(left.Medium(), medium) {
			t.Fatal("a crash without fates changed the medium")
		}
		kept := slices.Clone(medium)
		answers(t, "Flush", d.Flush(), api.OK)
		answers(t, "Edit", d.Edit(1, 0, full(byte(random.IntN(256)))), api.OK)
		clear(medium)
		if !bytes.Equal(other.Medium(), kept) {
			t.Fatal("what was carried away changed")
		}
		ahead := d.Medium()
		answers(t, "Edit", other.Edit(2, 0, full(byte(random.IntN(256)))), api.OK)
		write(t, other, 4, 4)
		answers(t, "Flush", other.Flush(), api.OK)
		if !bytes.Equal(d.Medium(), ahead) {
			t.Fatal("the device changed with the one that was made of it")
		}
	}
}

// Of a device that is down, with a cache, too.
func TestMediumOfDown(t *testing.T) {
	d := made(t, 64)
	write(t, d, 5, 1)
	answers(t, "Flush", d.Flush(), api.OK)
	write(t, d, 5, 2)
	answers(t, "Arm", d.Arm(0), api.OK)
	answers(t, "Flush", d.Flush(), api.ErrDown)
	medium := d.Medium()
	lies(t, d, 5, full(1))
	other := of(t, medium)
	reads(t, other, 5, full(1))
	asAtTheBeginning(t, of(t, medium))
	crashes(t, d, 0)
	if !bytes.Equal(d.Medium(), medium) {
		t.Error("a crash without fates changed the medium")
	}
}

// What is handed in is neither changed nor kept.
func TestHandedInStays(t *testing.T) {
	room := make([]byte, 64*512+100)
	for i := range room {
		room[i] = byte(i * 7)
	}
	before := slices.Clone(room)
	d := of(t, room[:64*512])
	answers(t, "Write", d.Write(5, room[3:515]), api.OK)
	answers(t, "Edit", d.Edit(6, 10, room[1:21]), api.OK)
	answers(t, "Write of another length", d.Write(5, room[:511]), api.ErrSize)
	answers(t, "Edit at no place", d.Edit(6, 500, room[:13]), api.ErrArg)
	list := []api.Fate{{Kind: api.Torn, At: 600}, {Kind: api.Torn, At: -4}, {Kind: api.Kept, At: 3}, {Kind: 9, At: 9}}
	fatesBefore := slices.Clone(list)
	if !bytes.Equal(room, before) {
		t.Error("bytes that were handed in were changed")
	}
	clear(room)
	reads(t, d, 5, before[3:515])
	six := slices.Clone(before[6*512 : 7*512])
	copy(six[10:], before[1:21])
	lies(t, d, 6, six)
	lies(t, d, 5, before[5*512:6*512])
	answers(t, "Write", d.Write(5, full(2)), api.OK)
	if n := d.Crash(list[:2]); n != 2 || !slices.Equal(list, fatesBefore) {
		t.Errorf("Crash: %d, and the fates are %v", n, list)
	}
	lies(t, d, 5, before[3:515])
	lies(t, d, 63, before[63*512:64*512])
}

// What is answered is new memory.
func TestAnswersAreNew(t *testing.T) {
	d := made(t, 64)
	answers(t, "Edit", d.Edit(4, 0, full(4)), api.OK)
	answers(t, "Edit", d.Edit(5, 0, full(5)), api.OK)
	write(t, d, 6, 6)
	write(t, d, 7, 7)
	medium := d.Medium()
	for _, tell := range []func() []byte{
		func() []byte { b, _ := d.Read(4); return b },
		func() []byte { b, _ := d.Read(6); return b },
		func() []byte { b, _ := d.Raw(4); return b },
		func() []byte { return d.Medium() },
	} {
		one, two := tell(), tell()
		kept := slices.Clone(two)
		for i := range one {
			one[i] = 99
		}
		_ = append(one, full(99)...)
		room := one[:cap(one)]
		for i := range room {
			room[i] = 99
		}
		if !bytes.Equal(two, kept) || !bytes.Equal(tell(), kept) {
			t.Error("an answer changed another")
		}
	}
	blocks := d.Pending()
	_ = append(blocks[:1], 50)
	blocks[0] = 50
	waits(t, d, 6, 7)
	if !bytes.Equal(d.Medium(), medium) {
		t.Error("an answer changed the medium")
	}
	answers(t, "Flush", d.Flush(), api.OK)
	for block := 4; block < 8; block++ {
		lies(t, d, block, full(byte(block)))
	}
}

func TestEachIsItsOwn(t *testing.T) {
	a, b := made(t, 64), made(t, 64)
	write(t, a, 5, 1)
	answers(t, "Arm", a.Arm(0), api.OK)
	answers(t, "Flush", a.Flush(), api.ErrDown)
	answers(t, "Edit", a.Edit(6, 0, full(6)), api.OK)
	asAtTheBeginning(t, b)
	if !bytes.Equal(b.Medium(), make([]byte, 64*512)) {
		t.Error("one device changed the other")
	}
}

// The cache has no bound.
func TestLongCache(t *testing.T) {
	d := made(t, 64)
	const n = 50000
	for i := range n {
		write(t, d, i%50, byte(i))
		reads(t, d, i%50, full(byte(i)))
		reads(t, d, 60, full(0))
	}
	if blocks := d.Pending(); len(blocks) != n || blocks[n-1] != (n-1)%50 {
		t.Errorf("%d writes wait", len(blocks))
	}
	crashes(t, d, n-50, keptAll(n-50)...)
	for block := range 50 {
		lies(t, d, block, full(byte(n-100+block)))
	}
	counts(t, d, api.Counts{Reads: 2 * n, Writes: n})
}

// model is a device as the chapter's words say it.
type model struct {
	medium [][]byte
	blocks []int
	writes [][]byte
	armed  bool
	left   int
	down   bool
	counts api.Counts
}

func newModel(blocks int) *model {
	m := &model{}
	for range blocks {
		m.medium = append(m.medium, full(0))
	}
	return m
}

func (m *model) act() api.Errno {
	switch {
	case m.down:
		return api.ErrDown
	case m.armed && m.left == 0:
		m.down = true
		return api.ErrDown
	case m.armed:
		m.left--
	}
	return api.OK
}

func (m *model) read(block int) ([]byte, api.Errno) {
	if block < 0 || block >= len(m.medium) {
		return nil, api.ErrBlock
	}
	if m.down {
		return nil, api.ErrDown
	}
	m.counts.Reads++
	for i := len(m.blocks) - 1; i >= 0; i-- {
		if m.blocks[i] == block {
			return m.writes[i], api.OK
		}
	}
	return m.medium[block], api.OK
}

func (m *model) write(block int, b []byte) api.Errno {
	if block < 0 || block >= len(m.medium) {
		return api.ErrBlock
	}
	if len(b) != 512 {
		return api.ErrSize
	}
	e := m.act()
	if e == api.OK {
		m.blocks = append(m.blocks, block)
		m.writes = append(m.writes, slices.Clone(b))
		m.counts.Writes++
	}
	return e
}

func (m *model) flush() api.Errno {
	e := m.act()
	if e == api.OK {
		for i, block := range m.blocks {
			m.medium[block] = m.writes[i]
		}
		m.blocks, m.writes = nil, nil
		m.counts.Flushes++
	}
	return e
}

func (m *model) arm(n int) api.Errno {
	if n < 0 {
		return api.ErrArg
	}
	if m.down {
		return api.ErrDown
	}
	m.armed, m.left = true, n
	return api.OK
}

func (m *model) crash(fates []api.Fate) int {
	n := 0
	for i, block := range m.blocks {
		if i < len(fates) {
			n += counted(fates[i])
			m.medium[block] = slices.Concat(m.writes[i][:reach(fates[i])], m.medium[block][reach(fates[i]):])
		}
	}
	m.blocks, m.writes, m.armed, m.down = nil, nil, false, false
	return n
}

func (m *model) edit(block, at int, b []byte) api.Errno {
	if block < 0 || block >= len(m.medium) {
		return api.ErrBlock
	}
	if at < 0 || at+len(b) > 512 {
		return api.ErrArg
	}
	m.medium[block] = slices.Concat(m.medium[block][:at], b, m.medium[block][at+len(b):])
	return api.OK
}

func randomBytes(random *rand.Rand, n int) []byte {
	b := make([]byte, n)
	for i := range b {
		b[i] = byte(random.Uint32())
	}
	return b
}

// randomLength is that of a block, mostly.
func randomLength(random *rand.Rand) int {
	if random.IntN(10) > 0 {
		return 512
	}
	return random.IntN(520)
}

// randomBlock is one of a few, so that they are written again and again, or one at the edges.
func randomBlock(random *rand.Rand, blocks int) int {
	switch random.IntN(12) {
	case 0:
		return []int{-1, blocks, blocks + 1, -blocks, math.MinInt, math.MaxInt}[random.IntN(6)]
	case 1:
		return blocks - 1
	case 2:
		return random.IntN(blocks)
	}
	return random.IntN(4)
}

// step does one call on both, and tells the call and its answer.
func step(t *testing.T, random *rand.Rand, d *dev.Dev, m *model) (string, api.Errno) {
	block := randomBlock(random, len(m.medium))
	same := func(call string, e, want api.Errno) (string, api.Errno) {
		t.Helper()
		if e != want {
			t.Fatalf("%s (block %d): %d, want %d", call, block, e, want)
		}
		return call, want
	}
	switch random.IntN(20) {
	case 0, 1:
		return same("Flush", d.Flush(), m.flush())
	case 2, 3:
		n := random.IntN(12) - 1
		return same("Arm", d.Arm(n), m.arm(n))
	case 4, 5:
		fates := randomFates(random, 12)
		n, want := d.Crash(fates), m.crash(fates)
		if n != want {
			t.Fatalf("Crash(%v) = %d, want %d", fates, n, want)
		}
		return "Crash", api.OK
	case 6, 7:
		at := random.IntN(520) - 4
		b := randomBytes(random, random.IntN(516))
		if random.IntN(2) == 0 {
			b = b[:random.IntN(min(len(b), max(512-at, 0))+1)]
		}
		return same("Edit", d.Edit(block, at, b), m.edit(block, at, b))
	case 8, 9, 10, 11:
		b, e := d.Read(block)
		want, wantErrno := m.read(block)
		if !bytes.Equal(b, want) || wantErrno != api.OK && b != nil {
			t.Fatalf("Read(%d) = %x, want %x", block, b, want)
		}
		return same("Read", e, wantErrno)
	}
	b := randomBytes(random, randomLength(random))
	return same("Write", d.Write(block, b), m.write(block, b))
}

// alike holds all that a device tells without an act against the model.
func alike(t *testing.T, d *dev.Dev, m *model) {
	t.Helper()
	waits(t, d, m.blocks...)
	counts(t, d, m.counts)
	if d.Down() != m.down || d.Blocks() != len(m.medium) || !bytes.Equal(d.Medium(), slices.Concat(m.medium...)) {
		t.Errorf("down: %v, want %v; %d blocks; or the medium", d.Down(), m.down, d.Blocks())
	}
	for block := -1; block <= len(m.medium); block++ {
		b, e := d.Raw(block)
		if block < 0 || block == len(m.medium) {
			if b != nil || e != api.ErrBlock {
				t.Errorf("Raw(%d) = %x, %d", block, b, e)
			}
		} else if e != api.OK || !bytes.Equal(b, m.medium[block]) {
			t.Errorf("Raw(%d) = %x, %d", block, b, e)
		}
	}
}

// P6.1 to P6.6: any calls in any order.
func TestAnyCalls(t *testing.T) {
	type outcome struct {
		call  string
		errno api.Errno
	}
	random := rand.New(rand.NewPCG(5, 6))
	seen := map[outcome]int{}
	for round := range 60 {
		blocks := 64 + round%3
		d, m := made(t, blocks), newModel(blocks)
		for range 250 {
			call, errno := step(t, random, d, m)
			seen[outcome{call, errno}]++
			alike(t, d, m)
			if t.Failed() {
				t.Fatalf("behind %s: %d", call, errno)
			}
		}
	}
	for _, o := range []outcome{
		{"Read", api.OK}, {"Read", api.ErrBlock}, {"Read", api.ErrDown}, {"Flush", api.OK}, {"Flush", api.ErrDown},
		{"Write", api.OK}, {"Write", api.ErrBlock}, {"Write", api.ErrSize}, {"Write", api.ErrDown}, {"Crash", api.OK},
		{"Arm", api.OK}, {"Arm", api.ErrArg}, {"Arm", api.ErrDown}, {"Edit", api.OK}, {"Edit", api.ErrBlock}, {"Edit", api.ErrArg},
	} {
		if seen[o] < 20 {
			t.Errorf("%s answered %d %d times", o.call, o.errno, seen[o])
		}
	}
}
