package backup_test

import (
	"bytes"
	"slices"
	"testing"

	"bursar/api"
	"bursar/backup"
)

// roomy: the same bytes with spare room behind them, and how that must stay.
func roomy(b []byte) (given, whole, want []byte) {
	whole = append(slices.Clone(b), 1, 2, 3, 4, 5, 6, 7, 8)
	return whole[:len(b)], whole, slices.Clone(whole)
}

// spend writes into an answer, and into its spare room.
func spend(b []byte) {
	for i := range b[:cap(b)] {
		b[:cap(b)][i] = 0xee
	}
}

// TestNothingShared: what is handed in is neither changed nor kept; what is answered is new memory.
func TestNothingShared(t *testing.T) {
	diff := difference(first, second)
	old, oldWhole, oldWant := roomy(first.stream())
	now, nowWhole, nowWant := roomy(second.stream())
	led, ledWhole, ledWant := roomy(diff)
	bad, badWhole, badWant := roomy(sealed([]byte{187, 1, 0, 1}))
	d := device(t, 64)
	for range 2 {
		verifies(t, "roomy", now, 2, 300, api.OK)
		verifies(t, "roomy and bad", bad, 0, 0, api.ErrBad)
		told, errno := backup.Diff(old, now)
		is(t, "Diff", errno, api.OK)
		merged, errno := backup.Merge(old, led)
		is(t, "Merge", errno, api.OK)
		is(t, "Import", backup.Import(d, 8, now), api.OK)
		s := open(t, d)
		stream, errno := backup.Export(s)
		is(t, "Export", errno, api.OK)
		again, errno := backup.Export(s)
		is(t, "Export", errno, api.OK)
		if !bytes.Equal(told, diff) || !bytes.Equal(merged, now) || !bytes.Equal(stream, now) || !bytes.Equal(again, now) {
			t.Errorf("told %x, %x, %x, %x", told, merged, stream, again)
		}
		spend(stream)
		spend(told)
		spend(merged)
		if !bytes.Equal(again, second.stream()) {
			t.Error("two answers share")
		}
		holds(t, "behind all", s, second)
	}
	merges(t, "bad", bad, led, nil, api.ErrBad)
	diffs(t, "bad", bad, bad, nil, api.ErrBad)
	for i, whole := range [][]byte{oldWhole, nowWhole, ledWhole, badWhole} {
		if want := [][]byte{oldWant, nowWant, ledWant, badWant}[i]; !bytes.Equal(whole, want) {
			t.Errorf("argument %d: %x, was %x", i, whole, want)
		}
	}
}

// TestNothingKept: a store that was laid by Import doesn't hang on the bytes that were handed in.
func TestNothingKept(t *testing.T) {
	b, d := second.stream(), device(t, 64)
	is(t, "Import", backup.Import(d, 8, b), api.OK)
	spend(b)
	holds(t, "behind a spoilt argument", open(t, d), second)
	b = first.stream()
	diff := difference(first, second)
	merged, errno := backup.Merge(b, diff)
	is(t, "Merge", errno, api.OK)
	spend(b)
	spend(diff)
	if !bytes.Equal(merged, second.stream()) {
		t.Error("Merge's answer shares with an argument")
	}
	b = second.stream()
	itself, errno := backup.Merge(b, difference(second, second))
	is(t, "Merge", errno, api.OK)
	spend(b)
	if !bytes.Equal(itself, second.stream()) {
		t.Error("Merge to the same stream shares with it")
	}
}
