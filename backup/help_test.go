package backup_test

import (
	"bytes"
	"encoding/binary"
	"hash/crc32"
	"maps"
	"math/rand/v2"
	"slices"
	"strings"
	"testing"

	"bursar/api"
	"bursar/backup"
	"bursar/dev"
	"bursar/store"
)

const top = 1<<60 - 1<<32 // the greatest version of which a store can be laid

func random(seed uint64) *rand.Rand { return rand.New(rand.NewPCG(seed, 26)) }

func text(n int) string { return strings.Repeat("v", n) }

func is(t *testing.T, what string, errno, want api.Errno) {
	t.Helper()
	if errno != want {
		t.Fatalf("%s: %d, want %d", what, errno, want)
	}
}

// state: what a stream is of, on paper.
type state struct {
	version int64
	values  map[string]string
}

func stateOf(version int64, l ...string) state {
	s := state{version, map[string]string{}}
	for i := 0; i < len(l); i += 2 {
		s.values[l[i]] = l[i+1]
	}
	return s
}

func (s state) keys() []string { return slices.Sorted(maps.Keys(s.values)) }

func (s state) entries() []api.Entry {
	var l []api.Entry
	for _, key := range s.keys() {
		l = append(l, api.Entry{Key: key, Value: s.values[key]})
	}
	return l
}

func (s state) same(other state) bool {
	return s.version == other.version && maps.Equal(s.values, other.values)
}

// sealed: bytes with their CRC-32C behind them, lowest byte first.
func sealed(b []byte) []byte {
	return binary.LittleEndian.AppendUint32(slices.Clone(b), crc32.Checksum(b, crc32.MakeTable(crc32.Castagnoli)))
}

func appendText(b []byte, s string) []byte {
	return append(binary.AppendUvarint(b, uint64(len(s))), s...)
}

// stream: the stream of a state, as the chapter's section Words tells it.
func (s state) stream() []byte {
	b := binary.AppendUvarint([]byte{187, 1}, uint64(s.version))
	b = binary.AppendUvarint(b, uint64(len(s.values)))
	for _, key := range s.keys() {
		b = appendText(appendText(b, key), s.values[key])
	}
	return sealed(b)
}

// difference: the difference from one state's stream to another's, likewise.
func difference(old, now state) []byte {
	all := map[string]struct{}{}
	for _, s := range []state{old, now} {
		for key := range s.values {
			all[key] = struct{}{}
		}
	}
	number, changes := uint64(0), []byte(nil)
	for _, key := range slices.Sorted(maps.Keys(all)) {
		was, had := old.values[key]
		is, has := now.values[key]
		switch {
		case !has:
			changes = appendText(append(changes, 1), key)
		case !had || was != is:
			changes = appendText(appendText(append(changes, 0), key), is)
		default:
			continue
		}
		number++
	}
	b := []byte{188, 1}
	for _, s := range []state{old, now} {
		stream := s.stream()
		b = append(binary.AppendUvarint(b, uint64(s.version)), stream[len(stream)-4:]...)
	}
	return sealed(append(binary.AppendUvarint(b, number), changes...))
}

// anyState: a state with few keys of few letters, so that two of them have keys in common.
func anyState(r *rand.Rand) state {
	s := state{r.Int64N(5), map[string]string{}}
	if r.IntN(3) == 0 {
		s.version = r.Int64N(top)
	}
	for range r.IntN(12) {
		s.values[anyKey(r)] = anyValue(r)
	}
	return s
}

func anyKey(r *rand.Rand) string {
	if r.IntN(20) == 0 {
		return strings.Repeat("k", 1+r.IntN(api.MaxKey))
	}
	key := ""
	for range 1 + r.IntN(3) {
		key += string([]byte{"ab\x00\xff"[r.IntN(4)]})
	}
	return key
}

func anyValue(r *rand.Rand) string {
	switch r.IntN(10) {
	case 0:
		return text(r.IntN(600))
	case 1:
		return "\x00\xff\x80"
	default:
		return text(r.IntN(3))
	}
}

// near: a state that is like this one but for a few keys.
func near(r *rand.Rand, s state) state {
	x := state{s.version + r.Int64N(2), maps.Clone(s.values)}
	for range r.IntN(4) {
		if key := anyKey(r); r.IntN(2) == 0 {
			x.values[key] = anyValue(r)
		} else {
			delete(x.values, key)
		}
	}
	return x
}

func device(t *testing.T, blocks int) *dev.Dev {
	t.Helper()
	d, errno := dev.New(blocks)
	is(t, "dev.New", errno, api.OK)
	return d
}

func open(t *testing.T, d *dev.Dev) *store.Store {
	t.Helper()
	s, errno := store.Open(d)
	is(t, "Open", errno, api.OK)
	return s
}

// holds: a store is in this state, and Export tells its stream.
func holds(t *testing.T, what string, s *store.Store, want state) {
	t.Helper()
	l, more, errno := s.Scan("", "", 1<<20)
	if s.Version() != want.version || !slices.Equal(l, want.entries()) || more || errno != api.OK {
		t.Fatalf("%s: version %d, %d entries, %v, %d, want version %d, %d entries", what, s.Version(), len(l), more, errno, want.version, len(want.values))
	}
	exports(t, what, s, want)
}

func exports(t *testing.T, what string, s *store.Store, want state) {
	t.Helper()
	if b, errno := backup.Export(s); errno != api.OK || !bytes.Equal(b, want.stream()) {
		t.Fatalf("%s: Export: %.60x, %d, want %.60x", what, b, errno, want.stream())
	}
}

func verifies(t *testing.T, what string, stream []byte, number int, version int64, want api.Errno) {
	t.Helper()
	if n, v, errno := backup.Verify(stream); n != number || v != version || errno != want {
		t.Errorf("Verify, %s: %d, %d, %d, want %d, %d, %d", what, n, v, errno, number, version, want)
	}
}

func diffs(t *testing.T, what string, old, now, want []byte, wantErrno api.Errno) {
	t.Helper()
	if b, errno := backup.Diff(old, now); !bytes.Equal(b, want) || errno != wantErrno {
		t.Errorf("Diff, %s: %.60x, %d, want %.60x, %d", what, b, errno, want, wantErrno)
	}
}

func merges(t *testing.T, what string, old, diff, want []byte, wantErrno api.Errno) {
	t.Helper()
	if b, errno := backup.Merge(old, diff); !bytes.Equal(b, want) || errno != wantErrno {
		t.Errorf("Merge, %s: %.60x, %d, want %.60x, %d", what, b, errno, want, wantErrno)
	}
}

// importsNot: Import is refused so, and does nothing to the device.
func importsNot(t *testing.T, what string, d *dev.Dev, log int, stream []byte, want api.Errno) {
	t.Helper()
	was := d.Counts()
	if errno := backup.Import(d, log, stream); errno != want || d.Counts() != was {
		t.Errorf("Import, %s: %d, %+v, want %d, %+v", what, errno, d.Counts(), want, was)
	}
}

// isNone: these bytes are no stream, and no difference from this state, in all calls.
func isNone(t *testing.T, what string, b []byte, s state) {
	t.Helper()
	stream := s.stream()
	verifies(t, what, b, 0, 0, api.ErrBad)
	diffs(t, what, b, stream, nil, api.ErrBad)
	diffs(t, what+", to it", stream, b, nil, api.ErrBad)
	merges(t, what+", merged with", b, difference(s, s), nil, api.ErrBad)
	merges(t, what, stream, b, nil, api.ErrBad)
	importsNot(t, what, device(t, 64), 8, b, api.ErrBad)
}
