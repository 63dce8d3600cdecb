package store_test

import (
	"fmt"
	"math"
	"strings"
	"testing"

	"bursar/anchor"
	"bursar/api"
	"bursar/store"
)

func TestExamples1And2(t *testing.T) {
	d := device(t, 64)
	is(t, "Format(nil)", store.Format(nil, 8), api.ErrArg)
	is(t, "a log of 7", store.Format(d, 7), api.ErrArg)
	is(t, "a log of 23", store.Format(d, 23), api.ErrArg)
	opensNot(t, d, api.ErrCorrupt)
	opensNot(t, nil, api.ErrArg)
	is(t, "Format", store.Format(d, 8), api.OK)
	s := open(t, d)
	stats(t, s, api.Stat{Generation: 2, Epoch: 2, LogFree: 3708})
	holds(t, s, stateOf(0))
	apply(t, s, set("a", "1"), set("b", "2"))
	both := stateOf(1, entry("a", "1"), entry("b", "2"))
	holds(t, s, both)
	stats(t, s, api.Stat{Generation: 2, Epoch: 2, Version: 1, LogFree: 3691, Entries: 2, Unsynced: 1})
	holds(t, open(t, copied(t, d)), stateOf(0))
	is(t, "Sync", s.Sync(), api.OK)
	s = open(t, d)
	holds(t, s, both)
	stats(t, s, api.Stat{Generation: 3, Epoch: 3, Version: 1, LogFree: 3244, Entries: 2})
}

func TestExample3(t *testing.T) {
	_, s := fresh(t)
	apply(t, s, set("a", "1"))
	for _, l := range [][]api.Change{nil, {set("", "1")}, {set("a", "1"), set("a", "2")}, {{Key: "a", Value: "1", Gone: true}}} {
		is(t, fmt.Sprint("Apply of ", l), s.Apply(l), api.ErrArg)
	}
	four := []api.Change{set("1", text(8192)), set("2", text(8192)), set("3", text(8192)), set("4", text(8192))}
	for _, l := range [][]api.Change{{set(strings.Repeat("k", 121), "")}, {set("a", text(8193))}, four, many(4097)} {
		is(t, "Apply of what is long", s.Apply(l), api.ErrLong)
	}
	holds(t, s, stateOf(1, entry("a", "1")))
	apply(t, s, gone("a"), gone("c"))
	holds(t, s, stateOf(2))

	_, s = fresh(t)
	big := set("k", text(3690))
	apply(t, s, big)
	stats(t, s, api.Stat{Generation: 2, Epoch: 2, Version: 1, LogFree: 6, Entries: 1, Unsynced: 1})
	apply(t, s, big)
	stats(t, s, api.Stat{Generation: 3, Epoch: 2, Version: 2, LogFree: 6, Entries: 1, Unsynced: 1})
	is(t, "more than the log", s.Apply([]api.Change{set("k", text(3800))}), api.ErrLogFull)
	stats(t, s, api.Stat{Generation: 3, Epoch: 2, Version: 2, LogFree: 6, Entries: 1, Unsynced: 1})
	holds(t, s, stateOf(2, entry("k", text(3690))))
}

func TestExample4(t *testing.T) {
	for _, c := range []struct {
		fates []api.Fate
		want  state
	}{
		{[]api.Fate{{Kind: api.Kept}}, stateOf(2, entry("a", "2"))},
		{[]api.Fate{{Kind: api.Torn, At: 511}}, stateOf(2, entry("a", "2"))},
		{[]api.Fate{{Kind: api.Torn, At: 500}}, stateOf(1, entry("a", "1"))},
		{nil, stateOf(1, entry("a", "1"))},
	} {
		d, s := fresh(t)
		apply(t, s, set("a", "1"))
		is(t, "Sync", s.Sync(), api.OK)
		apply(t, s, set("a", "2"))
		was := s.Stat()
		d.Arm(1)
		is(t, "Sync", s.Sync(), api.ErrDown)
		mustBeDead(t, s, was)
		d.Crash(c.fates)
		mustBeDead(t, s, was)
		holds(t, open(t, d), c.want)
	}
}

func TestExample5(t *testing.T) {
	d, s := fresh(t)
	apply(t, s, set("x", "1"))
	is(t, "Checkpoint", s.Checkpoint(), api.OK)
	stats(t, s, api.Stat{Generation: 3, Epoch: 2, Version: 1, LogFree: 3708, Entries: 1})
	lay(t, d, 8, 7, entry("a", "1"), entry("b", "2"))
	both := stateOf(7, entry("a", "1"), entry("b", "2"))
	holds(t, open(t, d), both)
	is(t, "keys that fall", store.Lay(d, 8, 0, []api.Entry{entry("b", "1"), entry("a", "1")}), api.ErrArg)
	holds(t, open(t, d), both)
}

// TestEdges: the log's last byte, and the first that is too many.
func TestEdges(t *testing.T) {
	_, s := fresh(t)
	most := []api.Change{set("k", text(3700))} // its record has 3708 bytes
	if n := len(recordOf(1, most)); n != 3708 {
		t.Fatalf("the test's own record has %d bytes", n)
	}
	more := []api.Change{set("k", text(3701))}
	is(t, "one byte more than the log", s.Apply(more), api.ErrLogFull)
	stats(t, s, api.Stat{Generation: 2, Epoch: 2, LogFree: 3708})
	apply(t, s, most...)
	stats(t, s, api.Stat{Generation: 2, Epoch: 2, Version: 1, Entries: 1, Unsynced: 1})
	is(t, "one byte more than the log", s.Apply(more), api.ErrLogFull)
	stats(t, s, api.Stat{Generation: 2, Epoch: 2, Version: 1, Entries: 1, Unsynced: 1})
	apply(t, s, gone("k"))
	stats(t, s, api.Stat{Generation: 3, Epoch: 2, Version: 2, LogFree: 3712 - 4 - 6 - 4, Unsynced: 1})
	holds(t, s, stateOf(2))
	apply(t, s, most...)
	stats(t, s, api.Stat{Generation: 4, Epoch: 2, Version: 3, Entries: 1, Unsynced: 1})
}

func TestWrongKeys(t *testing.T) {
	d, s := fresh(t)
	longest := strings.Repeat("k", 120)
	apply(t, s, set(longest, text(8192-5000)))
	for range 2 {
		gets(t, s, "", "", false, api.ErrArg)
		gets(t, s, longest+"k", "", false, api.ErrLong)
		gets(t, s, longest, text(8192-5000), true, api.OK)
		gets(t, s, "k", "", false, api.OK)
		is(t, "Checkpoint", s.Checkpoint(), api.OK)
	}
	if l, more, errno := s.Scan("", "", -1); len(l) != 0 || more || errno != api.ErrArg {
		t.Errorf("Scan of -1: %v, %v, %d", l, more, errno)
	}
	if l, more, errno := s.Scan("", "", math.MinInt); len(l) != 0 || more || errno != api.ErrArg {
		t.Errorf("Scan of the least number: %v, %v, %d", l, more, errno)
	}
	d.Arm(0)
	d.Flush()
	// What is wrong is told ahead of a device that is down.
	gets(t, s, "", "", false, api.ErrArg)
	gets(t, s, longest+"k", "", false, api.ErrLong)
	if l, more, errno := s.Scan("", "", -1); len(l) != 0 || more || errno != api.ErrArg {
		t.Errorf("Scan of -1: %v, %v, %d", l, more, errno)
	}
	is(t, "Apply of nothing", s.Apply(nil), api.ErrArg)
	is(t, "Apply of a long value", s.Apply([]api.Change{set("a", text(8193))}), api.ErrLong)
	stats(t, s, api.Stat{Generation: 4, Epoch: 2, Version: 1, LogFree: 3708, Entries: 1})
}

func TestScan(t *testing.T) {
	_, s := fresh(t)
	x := stateOf(0)
	for _, l := range [][]api.Change{
		{set("a", "1"), set("b", "2"), set("c", "3"), set("e", text(700))},
		nil,
		{gone("b"), set("bb", "4"), set("d", ""), set("c", "33"), gone("f")},
		{gone("d"), set("c", "333")},
	} {
		if l == nil {
			is(t, "Checkpoint", s.Checkpoint(), api.OK)
			continue
		}
		apply(t, s, l...)
		x = x.next(l)
		scansAll(t, s, x)
	}
}

// scansAll: all ranges between keys that are near, with each most.
func scansAll(t *testing.T, s *store.Store, x state) {
	t.Helper()
	ends := []string{"", "\x00", "a", "a\x00", "b", "bb", "bbb", "c", "cc", "d", "e", "f", "zz", strings.Repeat("z", 500)}
	for _, from := range ends {
		for _, to := range ends {
			for _, most := range []int{0, 1, 2, 3, 4, 5, 6, 9, math.MaxInt - 1, math.MaxInt} {
				want, wantMore := x.scan(from, to, most)
				l, more, errno := s.Scan(from, to, most)
				if fmt.Sprint(l) != fmt.Sprint(want) || more != wantMore || errno != api.OK {
					t.Fatalf("Scan(%.9q, %.9q, %d) = %.99v, %v, %d, want %.99v, %v", from, to, most, l, more, errno, want, wantMore)
				}
			}
		}
	}
}

// TestDownUnseen: an Apply with room doesn't ask the device; the first call that does is the last.
func TestDownUnseen(t *testing.T) {
	ask := map[string]func(*store.Store) api.Errno{
		"Get of the tree's":    func(s *store.Store) api.Errno { _, _, errno := s.Get("a"); return errno },
		"Get of the overlay's": func(s *store.Store) api.Errno { _, _, errno := s.Get("b"); return errno },
		"Get of what is gone":  func(s *store.Store) api.Errno { _, _, errno := s.Get("g"); return errno },
		"Get of nothing":       func(s *store.Store) api.Errno { _, _, errno := s.Get("x"); return errno },
		"Scan":                 func(s *store.Store) api.Errno { _, _, errno := s.Scan("", "", 9); return errno },
		"Scan of the overlay":  func(s *store.Store) api.Errno { _, _, errno := s.Scan("b", "c", 9); return errno },
		"Scan of nothing":      func(s *store.Store) api.Errno { _, _, errno := s.Scan("x", "", 0); return errno },
		"Sync":                 (*store.Store).Sync,
		"Checkpoint":           (*store.Store).Checkpoint,
		"Apply without room":   func(s *store.Store) api.Errno { return s.Apply([]api.Change{set("k", text(3690))}) },
	}
	for what, call := range ask {
		d, s := fresh(t)
		apply(t, s, set("a", "1"), set("g", "2"), set("h", "3"))
		is(t, "Checkpoint", s.Checkpoint(), api.OK)
		d.Arm(0)
		is(t, "Flush", d.Flush(), api.ErrDown)
		apply(t, s, set("b", "2"), gone("g"))
		apply(t, s, set("h", "3"), set("b", "3"), gone("c"))
		was := s.Stat()
		if was != (api.Stat{Generation: 3, Epoch: 2, Version: 3, LogFree: was.LogFree, Entries: 3, Unsynced: 2}) || was.LogFree == 0 {
			t.Fatalf("Stat: %+v", was)
		}
		is(t, what, call(s), api.ErrDown)
		mustBeDead(t, s, was)
		d.Crash(nil)
		mustBeDead(t, s, was)
		holds(t, open(t, d), stateOf(1, entry("a", "1"), entry("g", "2"), entry("h", "3")))
	}
}

// TestNoActs: an Apply for which the log has room does none, nor do Get, Scan, Version and Stat.
func TestNoActs(t *testing.T) {
	d, s := fresh(t)
	apply(t, s, set("a", "1"), set("b", text(900)))
	is(t, "Checkpoint", s.Checkpoint(), api.OK)
	was := d.Counts()
	apply(t, s, set("a", "2"), gone("b"))
	s.Get("a")
	s.Get("b")
	s.Scan("", "", 9)
	s.Version()
	s.Stat()
	s.Apply(nil)
	s.Apply([]api.Change{set("k", text(4000))})
	if now := d.Counts(); now.Writes != was.Writes || now.Flushes != was.Flushes {
		t.Errorf("acts: %+v, then %+v", was, now)
	}
	is(t, "Sync", s.Sync(), api.OK)
	if now := d.Counts(); now.Writes != was.Writes+1 || now.Flushes != was.Flushes+1 {
		t.Errorf("a Sync of one block: %+v, then %+v", was, now)
	}
}

// TestTop: superblocks by hand, near the greatest numbers.
func TestTop(t *testing.T) {
	for i, c := range []struct {
		alter            func(*api.Super)
		open, checkpoint api.Errno
	}{
		{func(p *api.Super) { p.Generation = top }, api.ErrCorrupt, 0},
		{func(p *api.Super) { p.Epoch = top }, api.ErrCorrupt, 0},
		{func(p *api.Super) { p.Generation = top - 1 }, api.OK, api.ErrArg},
		{func(p *api.Super) { p.Generation, p.Epoch = top-2, top-1 }, api.OK, api.OK},
		{func(p *api.Super) { p.Version = top }, api.OK, api.ErrArg},
		{func(p *api.Super) { p.Version = top - 1 }, api.OK, api.OK},
		{func(p *api.Super) { p.From = api.Mark{Stamp: top, At: (top - 1) % 8} }, api.OK, api.ErrArg},
		{func(p *api.Super) { p.From = api.Mark{Stamp: top - 1, At: (top - 2) % 8} }, api.OK, api.OK},
	} {
		d, s := fresh(t)
		apply(t, s, set("a", "1"))
		is(t, "Checkpoint", s.Checkpoint(), api.OK)
		p, _, _ := anchor.Read(d)
		p.Generation += 2 // where the device's other superblock lies
		c.alter(&p)
		is(t, "anchor.Write", anchor.Write(d, p), api.OK)
		was := d.Medium()
		if c.open != api.OK {
			opensNot(t, d, c.open)
			if string(d.Medium()) != string(was) || len(d.Pending()) != 0 {
				t.Errorf("case %d: something was written", i)
			}
			continue
		}
		s = open(t, d)
		stats(t, s, api.Stat{Generation: p.Generation + 1, Epoch: p.Epoch + 1, Version: p.Version, LogFree: 3708, Entries: 1})
		apply(t, s, set("b", "2"))
		is(t, fmt.Sprint("Checkpoint, case ", i), s.Checkpoint(), c.checkpoint)
		x := stateOf(p.Version+1, entry("a", "1"), entry("b", "2"))
		holds(t, s, x)
		generation, free := p.Generation+2, 3708
		if c.checkpoint != api.OK {
			generation, free = p.Generation+1, 3708-logBytes // it was synced, no more
		}
		stats(t, s, api.Stat{Generation: generation, Epoch: p.Epoch + 1, Version: x.version, LogFree: free, Entries: 2})
		if c.checkpoint != api.OK {
			is(t, "Apply that needs a checkpoint", s.Apply([]api.Change{set("k", text(3600))}), api.ErrLogFull)
			holds(t, s, x)
			apply(t, s, set("k", text(3000)))
		}
		d.Crash(nil)
		if p.Generation < top-1 && p.Epoch < top-1 {
			holds(t, open(t, d), x)
		}
	}
}

// TestNothingShared: lists that are told are new, those handed in stay as they are and aren't kept.
func TestNothingShared(t *testing.T) {
	_, s := fresh(t)
	room := []api.Change{set("a", "1"), set("b", text(100)), gone("c")}
	is(t, "Apply", s.Apply(room[:2]), api.OK)
	if room[0] != set("a", "1") || room[1] != set("b", text(100)) || room[2] != gone("c") {
		t.Errorf("Apply changed what was handed in: %v", room)
	}
	room[0], room[1] = set("x", "y"), gone("z")
	x := stateOf(1, entry("a", "1"), entry("b", text(100)))
	for range 2 {
		holds(t, s, x)
		l, _, _ := s.Scan("", "", 1)
		l[0] = entry("z", "z")
		_ = append(l, entry("y", "y"))
		holds(t, s, x)
		is(t, "Checkpoint", s.Checkpoint(), api.OK)
	}
	d := device(t, 64)
	entries := []api.Entry{entry("a", "1"), entry("b", "2"), entry("c", "3")}
	lay(t, d, 8, 1, entries[:2]...)
	if fmt.Sprint(entries) != "[{a 1} {b 2} {c 3}]" {
		t.Errorf("Lay changed what was handed in: %v", entries)
	}
	other, p := fresh(t)
	apply(t, p, set("o", "o"))
	lay(t, other, 8, 0)
	holds(t, s, x)
}
