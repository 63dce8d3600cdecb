package backup_test

import (
	"slices"
	"testing"

	"bursar/api"
	"bursar/backup"
)

// turned: with bits turned over from the place of this bit on, as those of the pattern say; its lowest one is 1.
func turned(b []byte, bit int, pattern uint32) []byte {
	b = slices.Clone(b)
	for i := range 32 {
		if at := bit + i; pattern>>i&1 == 1 && at < 8*len(b) {
			b[at/8] ^= 1 << (at % 8)
		}
	}
	return b
}

// TestBursts: P26.5: at each bit of a stream and a difference some bursts.
func TestBursts(t *testing.T) {
	r := random(5)
	now := stateOf(9, "a", text(30), "b", "", "c", "3")
	x, y, diff := second.stream(), now.stream(), difference(second, now)
	patterns := []uint32{1, 3, 0xff, 1<<31 + 1, 1<<32 - 1}
	for bit := range 8 * max(len(y), len(diff)) {
		for i := range 12 {
			pattern := r.Uint32() | 1
			if i < len(patterns) {
				pattern = patterns[i]
			}
			if bit < 8*len(y) {
				b := turned(y, bit, pattern)
				verifies(t, "turned", b, 0, 0, api.ErrBad)
				diffs(t, "from what is turned", b, x, nil, api.ErrBad)
				diffs(t, "to what is turned", x, b, nil, api.ErrBad)
				merges(t, "what is turned", b, difference(now, second), nil, api.ErrBad)
				is(t, "Import", backup.Import(device(t, 64), 8, b), api.ErrBad)
			}
			if bit < 8*len(diff) {
				merges(t, "by what is turned", x, turned(diff, bit, pattern), nil, api.ErrBad)
			}
		}
	}
}

// TestKindsTurned: P26.5: a stream doesn't become a difference, or the other way round, by a burst either.
func TestKindsTurned(t *testing.T) {
	x := first.stream()
	for pattern := range uint32(256) {
		b := slices.Clone(x)
		b[0] ^= byte(pattern)
		if pattern != 0 {
			isNone(t, "another first byte", b, first)
		}
	}
}
