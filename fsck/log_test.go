package fsck_test

import (
	"testing"

	"bursar/api"
	"bursar/dev"
	"bursar/fsck"
	"bursar/wal"
)

func set(e api.Entry) api.Change { return api.Change{Key: e.Key, Value: e.Value} }

func gone(e api.Entry) api.Change { return api.Change{Key: e.Key, Gone: true} }

// Rules 11 and 12: a log is judged record by record, up to the first that breaks one.
func TestLogs(t *testing.T) {
	node := func(version int64) string { return recordOf(t, version, set(nodeEntry(t, "/a"))) }
	for _, c := range []struct {
		what   string
		epoch  int64
		groups [][]string
		n      int
		want   []api.Problem
	}{
		{"none", 2, nil, 0, nil},
		{"one", 2, [][]string{{node(6)}}, 1, nil},
		{"three", 1, [][]string{{node(6), node(7)}, {node(8)}}, 3, nil},
		{"no record", 2, [][]string{{"x"}}, 0, p(11, 1)},
		{"a byte more", 2, [][]string{{node(6) + "\x00"}}, 0, p(11, 1)},
		{"no record behind two", 2, [][]string{{node(6)}, {node(7), "\xc3"}}, 2, p(11, 3)},
		{"no record, and behind it others", 2, [][]string{{node(6), "x", "y", node(9)}}, 1, p(11, 2)},
		{"the superblock's version", 2, [][]string{{node(5)}}, 0, p(12, 1)},
		{"two more than that", 2, [][]string{{node(7)}}, 0, p(12, 1)},
		{"the second as the first", 2, [][]string{{node(6)}, {node(6)}}, 1, p(12, 2)},
		{"the third two more, behind it no record", 2, [][]string{{node(6), node(7)}, {node(9), "x"}}, 2, p(12, 3)},
		{"the second two more, the third as it should be", 2, [][]string{{node(6), node(8), node(8)}}, 1, p(12, 2)},
		{"of the epoch behind the one it is opened in", 3, [][]string{{node(6)}}, 0, nil},
		{"no record, of that epoch", 3, [][]string{{"x"}}, 0, nil},
	} {
		for _, wide := range []bool{false, true} {
			d, s := device(t, 64), super(0, 0)
			if wide {
				s.Log, s.From = 20, api.Mark{Stamp: 39, At: 18}
			}
			logged(t, d, s, c.epoch, c.groups...)
			n, l := logOf(t, d, s)
			if n != c.n {
				t.Errorf("%s: %d records, want %d", c.what, n, c.n)
			}
			same(t, c.what, l, c.want)
			put(t, d, s)
			same(t, c.what+", by Check", check(t, d), c.want)
			// A log that begins behind all of this has none of it.
			s.From = api.Mark{Stamp: s.From.Stamp + 7, At: int(s.From.Stamp+6) % s.Log}
			if n, l := logOf(t, d, s); n != 0 || len(l) != 0 {
				t.Errorf("%s, from another mark: %d, %v", c.what, n, l)
			}
		}
	}
}

// Groups are found as wal finds them: through the cache, and whole or not at all.
func TestLogOfDevice(t *testing.T) {
	d, s := device(t, 64), super(0, 0)
	l, _, errno := wal.Open(d, 2, 8, s.From, 2)
	if errno != api.OK {
		t.Fatal(errno)
	}
	asks := func(what string, n int, want ...api.Problem) {
		t.Helper()
		got, l := logOf(t, d, s)
		if got != n {
			t.Errorf("%s: %d records, want %d", what, got, n)
		}
		same(t, what, l, want)
	}
	l.Append(recordOf(t, 6, set(nodeEntry(t, "/a"))))
	l.Append(recordOf(t, 7, api.Change{Key: "x", Value: text(500)}))
	asks("nothing was synced", 0)
	d.Arm(1)
	l.Sync()
	d.Crash([]api.Fate{{Kind: api.Kept}})
	asks("the first block of two", 0)
	l, _, _ = wal.Open(d, 2, 8, s.From, 2)
	l.Append(recordOf(t, 6, set(nodeEntry(t, "/a"))))
	l.Append(recordOf(t, 7, api.Change{Key: "x", Value: text(500)}))
	d.Arm(2)
	l.Sync()
	d.Crash([]api.Fate{{Kind: api.Kept}, {Kind: api.Torn, At: 500}})
	asks("the second block torn", 0)
	l, _, _ = wal.Open(d, 2, 8, s.From, 2)
	l.Append(recordOf(t, 6, set(nodeEntry(t, "/a"))))
	l.Append("x")
	d.Arm(1)
	l.Sync()
	d.Crash([]api.Fate{{Kind: api.Kept}})
	asks("a group of one block that was kept", 1, p(11, 2)...)

	// A flush that is still to come: what is written lies in the cache.
	d = device(t, 64)
	other := device(t, 64)
	logged(t, other, s, 2, []string{recordOf(t, 6, set(nodeEntry(t, "/a")))})
	b, _ := other.Raw(2)
	d.Write(2, b)
	asks("a group in the cache", 1)
	d.Crash(nil)
	asks("a group that was lost", 0)
}

// Check judges the state behind the log: the records by their places in it.
func TestStateBehindLog(t *testing.T) {
	a, b, c := nodeEntry(t, "/a"), nodeEntry(t, "/a/b"), nodeEntry(t, "/c")
	x, q := objectEntry(t, obj("/c", "x", 0, 5)), quotaEntry(t, hard("/", "q", "count", 0))
	laidDown := []api.Entry{a, b, c, x}
	for i, w := range []struct {
		changes [][]api.Change
		want    []api.Problem
	}{
		{nil, nil},
		{[][]api.Change{{set(q)}}, p(26, 5)},
		{[][]api.Change{{set(q)}, {gone(x)}}, nil},
		{[][]api.Change{{gone(x)}, {set(q)}, {set(x)}}, p(26, 5)},
		{[][]api.Change{{set(q), gone(x)}, {gone(q), set(x)}}, nil},
		{[][]api.Change{{gone(a)}}, p(23, 1)},
		{[][]api.Change{{gone(a), gone(b)}}, nil},
		{[][]api.Change{{gone(a)}, {gone(b)}, {set(b)}}, p(23, 1)},
		{[][]api.Change{{gone(c)}}, p(23, 3)},
		{[][]api.Change{{set(entry("\x00", ""))}, {set(entry("\x01", "")), set(entry("zz", ""))}}, p(22, 1, 22, 2, 22, 7)},
		{[][]api.Change{{set(entry("\x00", ""))}, {gone(entry("\x00", ""))}}, nil},
		{[][]api.Change{{set(entry(x.Key, "y"))}}, p(22, 4)},
		{[][]api.Change{{set(entry(x.Key, "y"))}, {set(x)}}, nil},
		{[][]api.Change{{gone(a), gone(b), gone(c), gone(x)}}, nil},
		{[][]api.Change{{gone(entry("not there", ""))}}, nil},
	} {
		d := laid(t, 64, 8, 5, laidDown...)
		s := counting(t, d)
		var records []string
		for j, l := range w.changes {
			records = append(records, recordOf(t, 6+int64(j), l...))
		}
		if len(records) > 0 {
			logged(t, d, s, 2, records)
		}
		same(t, "state "+string(rune('a'+i)), check(t, d), w.want)
		opens(t, d, len(w.want) == 0)
		// With another problem ahead of them those of the records aren't told.
		s.Count++
		put(t, d, s)
		same(t, "state "+string(rune('a'+i))+" with another count", check(t, d), p(8, 0))
		s.Count--
		put(t, d, s)
		logged(t, d, api.Super{Log: 8, From: after(t, d, s)}, 2, []string{"x"})
		same(t, "state "+string(rune('a'+i))+" with a bad record behind it", check(t, d), p(11, len(records)+1))
	}
}

// after tells the mark behind the log of a superblock.
func after(t *testing.T, d *dev.Dev, s api.Super) api.Mark {
	t.Helper()
	l, _, errno := wal.Open(d, 2, s.Log, s.From, s.Epoch+1)
	if errno != api.OK {
		t.Fatal(errno)
	}
	return l.End()
}

// Problems of the tree and the log are told together, by their rules.
func TestTreeAndLog(t *testing.T) {
	d := made{pages: below([]string{"m"}, []int{14, 13}, map[int]api.Node{14: leaf(entry("a", ""))})}.lay(t)
	s := super(12, 3)
	put(t, d, s)
	logged(t, d, s, 2, []string{recordOf(t, 6, set(entry("b", ""))), recordOf(t, 9, set(entry("c", "")))})
	same(t, "a spoilt tree and a spoilt log", check(t, d), p(3, 13, 4, 14, 8, 0, 12, 2))
	l, errno := fsck.Check(d, 3)
	if errno != api.OK {
		t.Fatal(errno)
	}
	same(t, "the first three", l, p(3, 13, 4, 14, 8, 0))
}
