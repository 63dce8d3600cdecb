package store_test

import (
	"encoding/binary"
	"maps"
	"math/rand/v2"
	"slices"
	"strings"
	"testing"

	"bursar/api"
	"bursar/dev"
	"bursar/store"
)

const (
	logBytes = 464
	top      = 1<<60 - 1<<32
)

func set(key, value string) api.Change { return api.Change{Key: key, Value: value} }

func gone(key string) api.Change { return api.Change{Key: key, Gone: true} }

func entry(key, value string) api.Entry { return api.Entry{Key: key, Value: value} }

func text(n int) string { return strings.Repeat("v", n) }

func device(t *testing.T, blocks int) *dev.Dev {
	t.Helper()
	d, errno := dev.New(blocks)
	if errno != api.OK {
		t.Fatalf("dev.New(%d): %d", blocks, errno)
	}
	return d
}

// copied: a device of its own with what is durable on d.
func copied(t *testing.T, d *dev.Dev) *dev.Dev {
	t.Helper()
	other, errno := dev.Of(d.Medium())
	if errno != api.OK {
		t.Fatalf("dev.Of: %d", errno)
	}
	return other
}

func lay(t *testing.T, d *dev.Dev, log int, version int64, l ...api.Entry) {
	t.Helper()
	if errno := store.Lay(d, log, version, l); errno != api.OK {
		t.Fatalf("Lay: %d", errno)
	}
}

func open(t *testing.T, d *dev.Dev) *store.Store {
	t.Helper()
	s, errno := store.Open(d)
	if s == nil || errno != api.OK {
		t.Fatalf("Open: %d", errno)
	}
	return s
}

// fresh: example 1's device and store.
func fresh(t *testing.T) (*dev.Dev, *store.Store) {
	t.Helper()
	d := device(t, 64)
	lay(t, d, 8, 0)
	return d, open(t, d)
}

func opensNot(t *testing.T, d *dev.Dev, want api.Errno) {
	t.Helper()
	if s, errno := store.Open(d); s != nil || errno != want {
		t.Fatalf("Open: %v, %d, want %d", s != nil, errno, want)
	}
}

func is(t *testing.T, what string, errno, want api.Errno) {
	t.Helper()
	if errno != want {
		t.Fatalf("%s: %d, want %d", what, errno, want)
	}
}

func apply(t *testing.T, s *store.Store, l ...api.Change) {
	t.Helper()
	is(t, "Apply", s.Apply(l), api.OK)
}

func gets(t *testing.T, s *store.Store, key, want string, there bool, wantErrno api.Errno) {
	t.Helper()
	if v, ok, errno := s.Get(key); v != want || ok != there || errno != wantErrno {
		t.Fatalf("Get(%.20q) = %.20q, %v, %d, want %.20q, %v, %d", key, v, ok, errno, want, there, wantErrno)
	}
}

func stats(t *testing.T, s *store.Store, want api.Stat) {
	t.Helper()
	if got := s.Stat(); got != want {
		t.Fatalf("Stat: %+v, want %+v", got, want)
	}
}

// state: what a store must tell.
type state struct {
	version int64
	values  map[string]string
}

func stateOf(version int64, l ...api.Entry) state {
	x := state{version, map[string]string{}}
	for _, e := range l {
		x.values[e.Key] = e.Value
	}
	return x
}

// next: the state behind changes; the one ahead of them is left as it is.
func (x state) next(l []api.Change) state {
	y := state{x.version + 1, maps.Clone(x.values)}
	for _, c := range l {
		if c.Gone {
			delete(y.values, c.Key)
		} else {
			y.values[c.Key] = c.Value
		}
	}
	return y
}

// scan: what Scan must tell of it.
func (x state) scan(from, to string, most int) ([]api.Entry, bool) {
	var l []api.Entry
	for _, key := range slices.Sorted(maps.Keys(x.values)) {
		if key < from || to != "" && key >= to {
			continue
		}
		if len(l) == most {
			return l, true
		}
		l = append(l, entry(key, x.values[key]))
	}
	return l, false
}

// weight: the sum of which ROOM speaks.
func (x state) weight() int {
	all := 0
	for key, value := range x.values {
		all += len(key) + len(value) + 32
	}
	return all
}

// holds: s tells just the state x.
func holds(t *testing.T, s *store.Store, x state) {
	t.Helper()
	if s.Version() != x.version {
		t.Fatalf("Version: %d, want %d", s.Version(), x.version)
	}
	if stat := s.Stat(); stat.Version != x.version || stat.Entries != len(x.values) {
		t.Fatalf("Stat: %+v, want the version %d and %d entries", stat, x.version, len(x.values))
	}
	want, _ := x.scan("", "", len(x.values))
	l, more, errno := s.Scan("", "", len(want))
	if !slices.Equal(l, want) || more || errno != api.OK {
		t.Fatalf("Scan at version %d: %d entries, %v, %d, want %d: %.200v, want %.200v", x.version, len(l), more, errno, len(want), l, want)
	}
	for _, e := range want {
		gets(t, s, e.Key, e.Value, true, api.OK)
	}
}

// mustBeDead: s answers ErrDown, whatever it is asked, and tells what it told of itself.
func mustBeDead(t *testing.T, s *store.Store, want api.Stat) {
	t.Helper()
	for _, key := range []string{"", "a", text(121)} {
		gets(t, s, key, "", false, api.ErrDown)
	}
	for _, most := range []int{-1, 0, 9} {
		if l, more, errno := s.Scan("", "", most); len(l) != 0 || more || errno != api.ErrDown {
			t.Fatalf("Scan of a dead store: %v, %v, %d", l, more, errno)
		}
	}
	is(t, "Apply of nothing to a dead store", s.Apply(nil), api.ErrDown)
	is(t, "Apply to a dead store", s.Apply([]api.Change{set("a", "1")}), api.ErrDown)
	is(t, "Apply of a long value to a dead store", s.Apply([]api.Change{set("a", text(8193))}), api.ErrDown)
	is(t, "Sync of a dead store", s.Sync(), api.ErrDown)
	is(t, "Checkpoint of a dead store", s.Checkpoint(), api.ErrDown)
	want.LogFree = 0
	stats(t, s, want)
	if s.Version() != want.Version {
		t.Fatalf("Version of a dead store: %d, want %d", s.Version(), want.Version)
	}
}

// recordOf: a record by the words of the chapter, without package pack.
func recordOf(version int64, l []api.Change) string {
	b := []byte{195}
	b = binary.AppendUvarint(b, uint64(version))
	b = binary.AppendUvarint(b, uint64(len(l)))
	text := func(s string) {
		b = binary.AppendUvarint(b, uint64(len(s)))
		b = append(b, s...)
	}
	for _, c := range l {
		if c.Gone {
			b = append(b, 1)
			text(c.Key)
		} else {
			b = append(b, 0)
			text(c.Key)
			text(c.Value)
		}
	}
	return string(b)
}

// wrong: what is answered of changes for a record of this version, by the words of the chapter.
func wrong(version int64, l []api.Change) api.Errno {
	if len(l) == 0 {
		return api.ErrArg
	}
	for i, c := range l {
		twice := slices.ContainsFunc(l[:i], func(b api.Change) bool { return b.Key == c.Key })
		if c.Key == "" || twice || c.Gone && c.Value != "" {
			return api.ErrArg
		}
	}
	for _, c := range l {
		if len(c.Key) > 120 || len(c.Value) > 8192 {
			return api.ErrLong
		}
	}
	if len(l) > 4096 || len(recordOf(version, l)) > 32768 {
		return api.ErrLong
	}
	return api.OK
}

func random(seed uint64) *rand.Rand { return rand.New(rand.NewPCG(seed, 12)) }

// anyKey: of few, so that they meet; some of them long.
func anyKey(r *rand.Rand) string {
	key := string(rune('a' + r.IntN(12)))
	switch r.IntN(6) {
	case 0:
		return key + strings.Repeat("k", 119)
	case 1:
		return key + string(rune('a'+r.IntN(3)))
	}
	return key
}

// anyValue: inline or a chain, at most most bytes.
func anyValue(r *rand.Rand, most int) string {
	n := []int{0, 1, 10, 64, 65, 300, 500, 501, 1500, 4000, 8192}[r.IntN(11)]
	n = min(n, r.IntN(most+1))
	b := make([]byte, n)
	for i := range b {
		b[i] = byte('a' + r.IntN(26))
	}
	return string(b)
}

// anyChanges: right ones.
func anyChanges(r *rand.Rand, most int) []api.Change {
	var l []api.Change
	for range 1 + r.IntN(4) {
		c := set(anyKey(r), anyValue(r, most))
		if r.IntN(4) == 0 {
			c = gone(c.Key)
		}
		if !slices.ContainsFunc(l, func(b api.Change) bool { return b.Key == c.Key }) {
			l = append(l, c)
		}
	}
	return l
}

// anyFates: for each unflushed write one.
func anyFates(r *rand.Rand, d *dev.Dev) []api.Fate {
	var fates []api.Fate
	for range d.Pending() {
		fate := api.Fate{Kind: r.IntN(3), At: r.IntN(513)}
		if r.IntN(3) == 0 {
			fate.At = []int{0, 1, 4, 8, 9, 16, 17, 24, 40, 496, 500, 504, 505, 511, 512}[r.IntN(15)]
		}
		fates = append(fates, fate)
	}
	if r.IntN(5) == 0 {
		kind := r.IntN(2)
		for i := range fates {
			fates[i].Kind = kind
		}
	}
	return fates
}
