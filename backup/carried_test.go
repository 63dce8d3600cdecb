package backup_test

import (
	"fmt"
	"math/rand/v2"
	"slices"
	"testing"

	"bursar/api"
	"bursar/backup"
	"bursar/dev"
	"bursar/server"
	"bursar/store"
)

// anyFates: of unflushed writes.
func anyFates(r *rand.Rand, n int) []api.Fate {
	l := make([]api.Fate, n)
	for i := range l {
		l[i] = api.Fate{Kind: r.IntN(3), At: r.IntN(513)}
	}
	return l
}

// change: what an Apply of some changes makes of a state on paper.
func change(t *testing.T, r *rand.Rand, s *store.Store, x state) state {
	t.Helper()
	x = stateOf(x.version+1, flat(x)...)
	var l []api.Change
	for range 1 + r.IntN(4) {
		key := anyKey(r)
		if slices.ContainsFunc(l, func(c api.Change) bool { return c.Key == key }) {
			continue
		}
		c := api.Change{Key: key, Gone: r.IntN(3) == 0}
		delete(x.values, key)
		if !c.Gone {
			c.Value = anyValue(r)
			x.values[key] = c.Value
		}
		l = append(l, c)
	}
	is(t, "Apply", s.Apply(l), api.OK)
	return x
}

// TestCarried: P26.2: through random changes, syncs, checkpoints, openings and crashes Export tells the state, and on another device it is the same; from there it goes on, and back.
func TestCarried(t *testing.T) {
	for seed := range uint64(60) {
		r := random(seed)
		d, x := device(t, 300), anyState(r)
		x.version = r.Int64N(1000)
		is(t, "Import", backup.Import(d, 8+r.IntN(9), x.stream()), api.OK)
		s := open(t, d)
		for range 25 {
			switch r.IntN(8) {
			case 0:
				is(t, "Sync", s.Sync(), api.OK)
			case 1:
				is(t, "Checkpoint", s.Checkpoint(), api.OK)
			case 2:
				is(t, "Sync", s.Sync(), api.OK)
				d.Crash(anyFates(r, r.IntN(5)))
				s = open(t, d)
			case 3:
				stream, errno := backup.Export(s)
				is(t, "Export", errno, api.OK)
				other := device(t, 200+r.IntN(200))
				is(t, "Import", backup.Import(other, 8+r.IntN(20), stream), api.OK)
				other.Crash(anyFates(r, r.IntN(5)))
				holds(t, "carried", open(t, other), x)
				if r.IntN(2) == 0 {
					d, s = other, open(t, other)
				}
			default:
				x = change(t, r, s, x)
			}
			exports(t, "on its way", s, x)
		}
	}
}

// TestGreat: P26.2: more entries than a list of pack's may have, and more bytes than a writer of pack's.
func TestGreat(t *testing.T) {
	many, fat := stateOf(9), stateOf(10)
	for i := range 5000 {
		many.values[fmt.Sprintf("%04d", i)] = text(i % 5)
	}
	for i := range 150 {
		fat.values[fmt.Sprintf("%04d", i*7)] = text(8192 - i)
	}
	d := device(t, 4096)
	for _, x := range []state{many, fat} {
		if len(x.values) <= api.MaxList && len(x.stream()) <= api.MaxWriter {
			t.Fatalf("%d entries, %d bytes: not great", len(x.values), len(x.stream()))
		}
		is(t, "Import", backup.Import(d, 8, x.stream()), api.OK)
		verifies(t, "great", x.stream(), len(x.values), x.version, api.OK)
		holds(t, "great", open(t, d), x)
	}
	both := stateOf(11, append(flat(many), flat(fat)...)...)
	for _, pair := range [][2]state{{many, fat}, {fat, many}, {stateOf(0), both}, {both, both}, {both, stateOf(0)}} {
		diff := difference(pair[0], pair[1])
		diffs(t, "great", pair[0].stream(), pair[1].stream(), diff, api.OK)
		merges(t, "great", pair[0].stream(), diff, pair[1].stream(), api.OK)
	}
}

// TestServerCarried: P9: what a server holds opens elsewhere to the same dump.
func TestServerCarried(t *testing.T) {
	d := device(t, 120)
	is(t, "Format", server.Format(d, 10), api.OK)
	s, errno := server.Open(d)
	is(t, "Open", errno, api.OK)
	part := api.Part{Name: "p", Requests: []api.Amount{{Name: "cpu", Value: 500}}}
	for _, q := range []api.Request{
		{Op: api.OpNodeAdd, Path: "/a"},
		{Op: api.OpBind, Path: "/a", Name: "b", Binding: api.Binding{Path: "/a", Name: "b", Subject: "ann", Verb: api.Read}},
		{Op: api.OpQuotaSet, Path: "/a", Name: "q", Quota: api.Quota{Path: "/a", Name: "q", Hard: []api.Amount{{Name: "count", Value: 2000}}}},
		{Op: api.OpCreate, Path: "/a", Name: "x", Object: api.Object{Path: "/a", Name: "x", Parts: []api.Part{part}}},
		{Op: api.OpSync},
	} {
		q.Subject = "root"
		is(t, fmt.Sprint("request ", q.Op), s.Do(q).Code, api.OK)
	}
	want, errno := s.Dump()
	is(t, "Dump", errno, api.OK)
	stream, errno := backup.Export(open(t, d))
	is(t, "Export", errno, api.OK)
	other := device(t, 100)
	is(t, "Import", backup.Import(other, 8, stream), api.OK)
	carried, errno := server.Open(other)
	is(t, "Open", errno, api.OK)
	if got, errno := carried.Dump(); fmt.Sprint(got) != fmt.Sprint(want) || errno != api.OK {
		t.Errorf("Dump: %v, %d, want %v", got, errno, want)
	}
}

// acts: how many writes and flushes an Import onto a store on a copy of this medium is.
func acts(t *testing.T, medium []byte, log int, stream []byte) int {
	t.Helper()
	d, errno := dev.Of(medium)
	is(t, "dev.Of", errno, api.OK)
	is(t, "Import", backup.Import(d, log, stream), api.OK)
	return d.Counts().Writes + d.Counts().Flushes
}

// TestCrashes: P26.3: the device goes down at each act of an Import, with any fates; what opens is the old store, none, or the new one; behind an OK just the new one.
func TestCrashes(t *testing.T) {
	old, now := stateOf(11, "old", "1", "x", text(900)), stateOf(300, "a", "1", "b", "", "x", text(2000))
	met := map[string]int{}
	d := device(t, 100)
	is(t, "Import", backup.Import(d, 8, old.stream()), api.OK)
	s := open(t, d)
	is(t, "Apply", s.Apply([]api.Change{{Key: "y", Value: "2"}}), api.OK)
	is(t, "Sync", s.Sync(), api.OK)
	old.version, old.values["y"] = 12, "2"
	for _, log := range []int{8, 12} {
		all := acts(t, d.Medium(), log, now.stream())
		for armed := range all + 1 {
			for seed := range uint64(12) {
				r := random(seed)
				x, errno := dev.Of(d.Medium())
				is(t, "dev.Of", errno, api.OK)
				x.Arm(armed)
				errno = backup.Import(x, log, now.stream())
				if (errno == api.OK) != (armed == all) || errno != api.OK && errno != api.ErrDown {
					t.Fatalf("Import armed with %d of %d: %d", armed, all, errno)
				}
				x.Crash(anyFates(r, len(x.Pending())))
				met[opensTo(t, x, old, now, errno)]++
			}
		}
	}
	if met["old"] < 20 || met["none"] < 20 || met["now"] < 20 {
		t.Errorf("met too few: %v", met)
	}
}

// opensTo: which of the stores opens there: behind an Import that answered OK the new one, however often it is opened, and crashes.
func opensTo(t *testing.T, d *dev.Dev, old, now state, imported api.Errno) string {
	t.Helper()
	s, errno := store.Open(d)
	if errno == api.ErrCorrupt && imported == api.ErrDown {
		return "none"
	}
	is(t, "Open", errno, api.OK)
	if s.Version() == old.version && imported == api.ErrDown {
		holds(t, "the old store", s, old)
		return "old"
	}
	holds(t, "the new store", s, now)
	d.Crash(nil)
	holds(t, "the new store again", open(t, d), now)
	return "now"
}

// TestRecoveryCut: P26.3: behind an OK crashes may cut the openings short, too.
func TestRecoveryCut(t *testing.T) {
	for armed := range 3 {
		for seed := range uint64(20) {
			r := random(seed)
			d := device(t, 64)
			is(t, "Import", backup.Import(d, 8, second.stream()), api.OK)
			for range 3 {
				d.Arm(armed)
				if _, errno := store.Open(d); errno != api.OK && errno != api.ErrDown {
					t.Fatalf("Open: %d", errno)
				}
				d.Crash(anyFates(r, len(d.Pending())))
			}
			holds(t, "at last", open(t, d), second)
		}
	}
}
