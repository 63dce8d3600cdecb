package store_test

import (
	"fmt"
	"math"
	"slices"
	"strings"
	"testing"

	"bursar/api"
	"bursar/store"
)

// records: Record answers so, and Unrecord tells what it was told.
func records(t *testing.T, version int64, l []api.Change, want string) {
	t.Helper()
	r, errno := store.Record(version, l)
	if r != want || errno != api.OK {
		t.Fatalf("Record(%d, %d changes) = %.60x, %d, want %.60x", version, len(l), r, errno, want)
	}
	v, m, errno := store.Unrecord(r)
	if v != version || !slices.Equal(m, l) || errno != api.OK {
		t.Fatalf("Unrecord(%.60x) = %d, %.100v, %d", r, v, m, errno)
	}
}

func recordsNot(t *testing.T, version int64, l []api.Change, want api.Errno) {
	t.Helper()
	if r, errno := store.Record(version, l); r != "" || errno != want {
		t.Fatalf("Record(%d, %d changes) = %d bytes, %d, want %d", version, len(l), len(r), errno, want)
	}
}

func unrecordsNot(t *testing.T, record string) {
	t.Helper()
	if v, l, errno := store.Unrecord(record); v != 0 || len(l) != 0 || errno != api.ErrBad {
		t.Fatalf("Unrecord(%.60x) = %d, %d changes, %d", record, v, len(l), errno)
	}
}

func TestRecordExamples(t *testing.T) {
	records(t, 1, []api.Change{set("a", "1"), set("b", "2")}, "\xc3\x01\x02\x00\x01a\x011\x00\x01b\x012")
	records(t, 300, []api.Change{gone("b"), set("a", "")}, "\xc3\xac\x02\x02\x01\x01b\x00\x01a\x00")
	records(t, api.MaxStamp, []api.Change{gone("a")}, "\xc3\x80\x80\x80\x80\x80\x80\x80\x80\x10\x01\x01\x01a")
	big := []api.Change{set("k", text(3690))}
	if r, _ := store.Record(1, big); len(r) != 3698 {
		t.Errorf("example 3: %d bytes", len(r))
	}
}

// many: so many changes with unlike keys of two bytes.
func many(n int) []api.Change {
	var l []api.Change
	for i := range n {
		l = append(l, gone(string([]byte{byte(i >> 8), byte(i)})))
	}
	return l
}

func TestRecordLimits(t *testing.T) {
	longest := strings.Repeat("k", 120)
	for _, l := range [][]api.Change{{set(longest, "")}, {gone(longest)}, {set("a", text(8192))}, many(4096)} {
		records(t, 1, l, recordOf(1, l))
	}
	// The record of three values of 8192 bytes and a fourth: at most 32768 bytes in all, however the version adds to them.
	l := []api.Change{set("a", text(8192)), set("b", text(8192)), set("c", text(8192)), set("d", text(8169))}
	records(t, 127, l, recordOf(127, l))
	if n := len(recordOf(127, l)); n != 32768 {
		t.Fatalf("the test's own record has %d bytes", n)
	}
	recordsNot(t, 128, l, api.ErrLong)
	l[3].Value += "v"
	recordsNot(t, 127, l, api.ErrLong)
	recordsNot(t, 1, many(4097), api.ErrLong)
	recordsNot(t, 1, []api.Change{set(longest+"k", "")}, api.ErrLong)
	recordsNot(t, 1, []api.Change{gone(longest + "k")}, api.ErrLong)
	recordsNot(t, 1, []api.Change{set("a", text(8193))}, api.ErrLong)
}

func TestRecordWrong(t *testing.T) {
	right := []api.Change{set("a", "1")}
	for _, version := range []int64{0, -1, math.MinInt64, api.MaxStamp + 1, math.MaxInt64} {
		recordsNot(t, version, right, api.ErrArg)
		recordsNot(t, version, []api.Change{set("a", text(8193))}, api.ErrArg)
	}
	long := set(text(121), text(8193))
	for _, l := range [][]api.Change{
		nil,
		{},
		{set("", "1")},
		{gone("")},
		{set("a", "1"), set("a", "1")},
		{set("a", "1"), gone("b"), gone("a")},
		{{Key: "a", Value: "1", Gone: true}},
		{long, set("", "")},
		{long, long},
		{long, {Key: "a", Value: "1", Gone: true}},
		append(many(5000), gone("")),
	} {
		recordsNot(t, 1, l, api.ErrArg)
	}
}

func TestUnrecordWrong(t *testing.T) {
	r := recordOf(300, []api.Change{set("a", "1"), gone("b")})
	for i := range len(r) {
		unrecordsNot(t, r[:i])
	}
	for _, s := range []string{
		r + "\x00",
		"\xc4" + r[1:],
		"\xc3\x01\x00",          // no changes
		"\xc3\x00\x01\x01\x01a", // version 0
		"\xc3\x81\x80\x80\x80\x80\x80\x80\x80\x10\x01\x01\x01a",     // above the greatest
		"\xc3\xff\xff\xff\xff\xff\xff\xff\xff\xff\x01\x01\x01\x01a", // -1, if it wraps round
		"\xc3\x81\x00\x01\x01\x01a",                                 // the version in too many bytes
		"\xc3\x01\x01\x02\x01a",                                     // a truth that is none
		"\xc3\x01\x01\x01\x00",                                      // a key without bytes
		"\xc3\x01\x02\x01\x01a\x01\x01a",                            // a key twice
		"\xc3\x01\x01\x01\x01a\x00",                                 // a value of what is gone
		"\xc3\x01\x01\x01\x79" + text(121),                          // a long key
		"\xc3\x01\x01\x00\x01a\x81\x40" + text(8193),
		recordOf(1, many(4097)),
		recordOf(128, []api.Change{set("a", text(8192)), set("b", text(8192)), set("c", text(8192)), set("d", text(8169))}),
	} {
		unrecordsNot(t, s)
	}
}

// TestRecordModel: at any changes and versions Record answers as the words of the chapter say; what Unrecord takes, of bytes edited by chance, is just what Record gives again.
func TestRecordModel(t *testing.T) {
	r := random(1)
	taken := 0
	for range 20000 {
		version := []int64{0, 1, 127, 128, 1 << 40, api.MaxStamp, api.MaxStamp + 1}[r.IntN(7)]
		l := anyChanges(r, 200)
		if r.IntN(3) == 0 {
			l = append(l, []api.Change{set("", ""), gone("a"), set("a", "2"), {Key: "b", Value: "1", Gone: true}, set(text(121), ""), set("c", text(8193))}[r.IntN(6)])
		}
		want := wrong(version, l)
		if version < 1 || version > api.MaxStamp {
			want = api.ErrArg
		}
		if want != api.OK {
			recordsNot(t, version, l, want)
			continue
		}
		records(t, version, l, recordOf(version, l))
		b := []byte(recordOf(version, l))
		b[r.IntN(len(b))] ^= 1 << r.IntN(8)
		if v, m, errno := store.Unrecord(string(b)); errno == api.OK {
			taken++
			if wrong(v, m) != api.OK || v < 1 || v > api.MaxStamp || recordOf(v, m) != string(b) {
				t.Fatalf("Unrecord(%x) = %d, %v", b, v, m)
			}
		} else {
			unrecordsNot(t, string(b))
		}
	}
	if taken < 100 {
		t.Errorf("of the edited ones only %d were records", taken)
	}
}

// TestRecordNothingShared: what is handed in stays as it is, and what is told is new.
func TestRecordNothingShared(t *testing.T) {
	room := []api.Change{set("a", "1"), gone("b"), set("c", "3")}
	r, _ := store.Record(1, room[:2])
	if fmt.Sprint(room) != "[{a 1 false} {b  true} {c 3 false}]" {
		t.Errorf("Record changed what was handed in: %v", room)
	}
	_, l, _ := store.Unrecord(r)
	l[0] = gone("x")
	_ = append(l[:1], gone("y"))
	if _, m, _ := store.Unrecord(r); fmt.Sprint(m) != "[{a 1 false} {b  true}]" {
		t.Errorf("Unrecord's list isn't new: %v", m)
	}
}
