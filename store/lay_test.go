package store_test

import (
	"bytes"
	"fmt"
	"math"
	"slices"
	"strings"
	"testing"

	"bursar/anchor"
	"bursar/api"
	"bursar/dev"
	"bursar/store"
)

func TestLayWrong(t *testing.T) {
	d, s := fresh(t)
	apply(t, s, set("x", "1"))
	is(t, "Sync", s.Sync(), api.OK)
	was, acts := d.Medium(), d.Counts()
	a, b, long := entry("a", "1"), entry("b", "2"), entry(strings.Repeat("k", 121), "")
	var much []api.Entry
	for i := range 20 {
		much = append(much, entry(fmt.Sprintf("%02d", i), text(8000)))
	}
	for i, c := range []struct {
		log     int
		version int64
		l       []api.Entry
		want    api.Errno
	}{
		{7, 0, nil, api.ErrArg},
		{23, 0, nil, api.ErrArg},
		{0, 0, nil, api.ErrArg},
		{-1, 0, nil, api.ErrArg},
		{513, 0, nil, api.ErrArg},
		{math.MaxInt, 0, nil, api.ErrArg},
		{math.MinInt, 0, nil, api.ErrArg},
		{8, -1, nil, api.ErrArg},
		{8, math.MinInt64, nil, api.ErrArg},
		{8, top + 1, nil, api.ErrArg},
		{8, math.MaxInt64, nil, api.ErrArg},
		{8, 0, []api.Entry{b, a}, api.ErrArg},
		{8, 0, []api.Entry{a, a}, api.ErrArg},
		{8, 0, []api.Entry{entry("", "")}, api.ErrArg},
		{8, 0, []api.Entry{entry("", ""), a}, api.ErrArg},
		{8, 0, []api.Entry{long, a}, api.ErrArg},
		{23, 0, []api.Entry{long}, api.ErrArg},
		{8, 0, []api.Entry{a, long}, api.ErrLong},
		{8, 0, []api.Entry{entry("a", text(8193))}, api.ErrLong},
		{8, 0, append(slices.Clone(much), long), api.ErrLong},
		{8, 0, much, api.ErrNoSpace},
	} {
		is(t, fmt.Sprint("Lay, case ", i), store.Lay(d, c.log, c.version, c.l), c.want)
		if !bytes.Equal(d.Medium(), was) || len(d.Pending()) != 0 || d.Counts().Writes != acts.Writes || d.Counts().Flushes != acts.Flushes {
			t.Fatalf("case %d: the device was changed", i)
		}
		is(t, fmt.Sprint("Lay of nil, case ", i), store.Lay(nil, c.log, c.version, c.l), api.ErrArg)
	}
	d.Arm(0)
	d.Flush()
	is(t, "keys that fall, of a device that is down", store.Lay(d, 8, 0, []api.Entry{b, a}), api.ErrArg)
	is(t, "too much for a device that is down", store.Lay(d, 8, 0, much), api.ErrNoSpace)
	is(t, "Lay of a device that is down", store.Lay(d, 8, 0, nil), api.ErrDown)
	is(t, "Format of a device that is down", store.Format(d, 8), api.ErrDown)
	d.Crash(nil)
	holds(t, open(t, d), stateOf(1, entry("x", "1")))
}

func TestLayEdges(t *testing.T) {
	for _, c := range []struct {
		blocks, log int
		version     int64
		l           []api.Entry
	}{
		{64, 8, 0, nil},
		{64, 22, top, []api.Entry{entry("a", "")}},
		{4096, 512, 1, []api.Entry{entry(strings.Repeat("k", 120), text(8192))}},
		{554, 512, 9, []api.Entry{entry("\x00", text(64)), entry("\x00\x00", text(65)), entry("\xff", text(500))}},
	} {
		d := device(t, c.blocks)
		lay(t, d, c.log, c.version, c.l...)
		d.Crash(nil)
		s := open(t, d)
		holds(t, s, stateOf(c.version, c.l...))
		stats(t, s, api.Stat{Generation: 2, Epoch: 2, Version: c.version, LogFree: min(32768, logBytes*c.log-4), Entries: len(c.l)})
	}
	d := device(t, 553)
	is(t, "39 blocks for the tree", store.Format(d, 512), api.ErrArg)
	is(t, "40 blocks for the tree", store.Format(d, 511), api.OK)
}

// step: an act that Lay must do: a write of these blocks' bytes, or (block -1) a flush.
type step struct {
	block int
	bytes []byte
}

// steps: Lay's acts without entries, by the words of the chapter.
func steps(newest, log int, super api.Super) []step {
	zeros := make([]byte, 512)
	var l []step
	switch newest {
	case -1:
		l = append(l, step{0, zeros}, step{1, zeros}, step{block: -1})
	default:
		l = append(l, step{1 - newest, zeros}, step{block: -1}, step{newest, zeros}, step{block: -1})
	}
	for i := range log {
		l = append(l, step{2 + i, zeros})
	}
	b, _ := anchor.Encode(super)
	return append(l, step{block: -1}, step{1, b}, step{block: -1})
}

// TestLayActs: each act in its order, none more.
func TestLayActs(t *testing.T) {
	d, s := fresh(t)
	apply(t, s, set("x", "1"))
	is(t, "Sync", s.Sync(), api.OK)
	even := copied(t, d) // generation 2 counts
	is(t, "Checkpoint", s.Checkpoint(), api.OK)
	odd := copied(t, d) // generation 3 does
	none := device(t, 64)
	for block := range 64 {
		none.Edit(block, 0, bytes.Repeat([]byte{7}, 512))
	}
	super := api.Super{Generation: 1, Epoch: 1, Blocks: 64, Log: 9, From: api.Mark{Stamp: 1}, Version: 5}
	for newest, from := range map[int]*dev.Dev{-1: none, 0: even, 1: odd} {
		l := steps(newest, 9, super)
		for n := range len(l) + 1 {
			d, want := copied(t, from), copied(t, from)
			d.Arm(n)
			errno := api.ErrDown
			if n == len(l) {
				errno = api.OK
			}
			is(t, fmt.Sprint("Lay with ", n, " acts"), store.Lay(d, 9, 5, nil), errno)
			for _, step := range l[:n] {
				if step.block < 0 {
					want.Flush()
				} else {
					want.Write(step.block, step.bytes)
				}
			}
			if !slices.Equal(d.Pending(), want.Pending()) || !bytes.Equal(d.Medium(), want.Medium()) {
				t.Fatalf("newest %d: behind %d acts: %v, want %v", newest, n, d.Pending(), want.Pending())
			}
		}
	}
}

// TestLayTreeActs: with entries the tree's pages are flushed behind the log's zeros and ahead of the superblock.
func TestLayTreeActs(t *testing.T) {
	l := []api.Entry{entry("a", text(2000)), entry("b", "2")}
	for n := 0; ; n++ {
		d, s := fresh(t)
		apply(t, s, set("x", "1"))
		is(t, "Sync", s.Sync(), api.OK)
		d.Arm(n)
		errno := store.Lay(d, 8, 7, l)
		if errno == api.OK {
			if n < 4+9+3+2 {
				t.Errorf("Lay took only %d acts", n)
			}
			return
		}
		is(t, "Lay", errno, api.ErrDown)
		pending := d.Pending()
		switch {
		case n < 4+9:
			continue // the superblocks' and the log's, as without entries
		case len(pending) == 1 && pending[0] == 1:
			// The superblock: all it names is on the medium.
			d.Crash([]api.Fate{{Kind: api.Kept}})
			holds(t, open(t, d), stateOf(7, l...))
		case slices.ContainsFunc(pending, func(block int) bool { return block < 10 }):
			t.Fatalf("behind %d acts: %v", n, pending)
		default:
			d.Crash(slices.Repeat([]api.Fate{{Kind: api.Kept}}, len(pending)))
			opensNot(t, d, api.ErrCorrupt)
		}
	}
}

// TestLayCrash: behind a crash in the middle of Lay there is the old store, none, or the new one; this just if the last write survived.
func TestLayCrash(t *testing.T) {
	r := random(3)
	seen := map[string]int{}
	for range 3000 {
		d, s := fresh(t)
		apply(t, s, set("x", "1"))
		is(t, "Sync", s.Sync(), api.OK)
		old := stateOf(1, entry("x", "1"))
		if r.IntN(2) == 0 {
			apply(t, s, set("y", text(700)))
			is(t, "Checkpoint", s.Checkpoint(), api.OK)
			old = old.next([]api.Change{set("y", text(700))})
		}
		x := stateOf(9, entry("a", "1"), entry("b", text(100)))
		log := 8 + r.IntN(15)
		d.Arm(r.IntN(log + 12))
		l, _ := x.scan("", "", 9)
		errno := store.Lay(d, log, 9, l)
		pending := d.Pending()
		last := len(pending) > 0 && pending[len(pending)-1] == 1 && len(pending) == 1
		fates := anyFates(r, d)
		d.Crash(fates)
		s, opened := store.Open(d)
		switch {
		case errno == api.OK:
			is(t, "Open", opened, api.OK)
			holds(t, s, x)
			seen["laid"]++
		case opened == api.ErrCorrupt:
			seen["none"]++
		case opened != api.OK:
			t.Fatalf("Open: %d", opened)
		case s.Version() == 9:
			if !last || fates[0].Kind == api.Dropped {
				t.Fatalf("the new store, but its superblock was lost: %v, %v", pending, fates)
			}
			holds(t, s, x)
			seen["new"]++
		default:
			holds(t, s, old)
			seen["old"]++
		}
	}
	for _, what := range []string{"laid", "none", "new", "old"} {
		if seen[what] < 20 {
			t.Errorf("%s: only %d times", what, seen[what])
		}
	}
}

// TestLayOver: nothing of an old store comes back, whatever its log was.
func TestLayOver(t *testing.T) {
	d := device(t, 100)
	for _, log := range []int{8, 30, 12, 50, 8} {
		lay(t, d, log, 3, entry("l", "1"))
		s := open(t, d)
		x := stateOf(3, entry("l", "1"))
		holds(t, s, x)
		for i := range 40 {
			l := []api.Change{set(fmt.Sprint(i%7), text(i*9))}
			apply(t, s, l...)
			x = x.next(l)
			if i%5 == 0 {
				is(t, "Sync", s.Sync(), api.OK)
			}
		}
		is(t, "Sync", s.Sync(), api.OK)
		holds(t, open(t, d), x)
	}
}

// TestLayAgain: the same entries make the same bytes each time.
func TestLayAgain(t *testing.T) {
	var l []api.Entry
	for i := range 300 {
		l = append(l, entry(fmt.Sprintf("%03d", i), text(i%90)))
	}
	one, two := device(t, 256), device(t, 256)
	lay(t, one, 8, 1, l...)
	lay(t, two, 8, 1, l...)
	if !bytes.Equal(one.Medium(), two.Medium()) || one.Counts() != two.Counts() {
		t.Error("two Lays of one store differ")
	}
	holds(t, open(t, one), stateOf(1, l...))
}
