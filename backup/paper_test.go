package backup_test

import (
	"bytes"
	"encoding/binary"
	"math/rand/v2"
	"slices"
	"testing"

	"bursar/api"
	"bursar/backup"
)

// slip: bytes that are read off one by one; wrong, once they weren't there.
type slip struct {
	left  []byte
	wrong bool
}

func (s *slip) take(n uint64) string {
	if s.wrong = s.wrong || n > uint64(len(s.left)); s.wrong {
		return ""
	}
	b := s.left[:n]
	s.left = s.left[n:]
	return string(b)
}

// number reads a number in any form: that it is the one form is told by writing all again.
func (s *slip) number() uint64 {
	v, n := binary.Uvarint(s.left)
	if s.wrong = s.wrong || n <= 0; s.wrong {
		return 0
	}
	s.take(uint64(n))
	return v
}

func (s *slip) text() string { return s.take(s.number()) }

// read: what a stream is of, if these bytes are one: the state that they seem to tell must be one, and have them for its stream.
func read(b []byte) (state, bool) {
	if len(b) < 4 {
		return state{}, false
	}
	p := &slip{left: b[:len(b)-4]}
	p.take(2)
	s := stateOf(int64(p.number()))
	for n := p.number(); n > 0 && !p.wrong; n-- {
		key := p.text()
		s.values[key] = p.text()
	}
	if p.wrong || !s.is() || !bytes.Equal(s.stream(), b) {
		return state{}, false
	}
	return s, true
}

// is: whether it is a state.
func (s state) is() bool {
	for key, value := range s.values {
		if key == "" || len(key) > api.MaxKey || len(value) > api.MaxValue {
			return false
		}
	}
	return s.version >= 0 && s.version <= api.MaxStamp
}

// led: the state to whose stream this is the difference, if there is one.
func led(old state, diff []byte) (state, bool) {
	if len(diff) < 4 {
		return state{}, false
	}
	p := &slip{left: diff[:len(diff)-4]}
	p.take(2)
	p.number()
	p.take(4)
	now := stateOf(int64(p.number()), flat(old)...)
	p.take(4)
	for n := p.number(); n > 0 && !p.wrong; n-- {
		gone, key := p.take(1), p.text()
		if gone == "\x01" {
			delete(now.values, key)
		} else {
			now.values[key] = p.text()
		}
	}
	if p.wrong || !now.is() || !bytes.Equal(difference(old, now), diff) {
		return state{}, false
	}
	return now, true
}

func flat(s state) []string {
	var l []string
	for _, e := range s.entries() {
		l = append(l, e.Key, e.Value)
	}
	return l
}

// bent: sealed bytes, of which some are changed, and which are sealed anew, mostly.
func bent(r *rand.Rand, b []byte) []byte {
	b = slices.Clone(b[:len(b)-4])
	for range 1 + r.IntN(2) {
		at := r.IntN(len(b) + 1)
		if r.IntN(2) == 0 {
			at = min(at, 5) // where the versions, marks and numbers stand
		}
		end := min(at+r.IntN(3), len(b))
		b = slices.Replace(b, at, end, someBytes(r, r.IntN(3))...)
	}
	if r.IntN(10) == 0 {
		return append(b, someBytes(r, 4)...)
	}
	return sealed(b)
}

func someBytes(r *rand.Rand, n int) []byte {
	b := make([]byte, n)
	for i := range b {
		b[i] = []byte{0, 1, 2, 3, 'a', 'b', 0x80, byte(r.Uint32())}[r.IntN(8)]
	}
	return b
}

// TestAnyStream: P26.1 and P26.6: of whatever bytes Verify tells what the chapter's words say; so does a Diff to itself, and Import.
func TestAnyStream(t *testing.T) {
	right, wrong := 0, 0
	for seed := range uint64(20000) {
		r := random(seed)
		b := bent(r, anyState(r).stream())
		s, ok := read(b)
		if !ok {
			wrong++
			verifies(t, "bent", b, 0, 0, api.ErrBad)
			diffs(t, "bent", b, b, nil, api.ErrBad)
			continue
		}
		right++
		verifies(t, "bent", b, len(s.values), s.version, api.OK)
		diffs(t, "bent", b, b, difference(s, s), api.OK)
		if seed%10 == 0 {
			d := device(t, 100)
			is(t, "Import", backup.Import(d, 8, b), api.OK)
			holds(t, "bent", open(t, d), s)
		}
	}
	if right < 1500 || wrong < 1500 {
		t.Errorf("%d right, %d wrong", right, wrong)
	}
}

// TestAnyDifference: P26.1: Merge takes of whatever bytes just what is the difference to some stream.
func TestAnyDifference(t *testing.T) {
	right, wrong := 0, 0
	for seed := range uint64(20000) {
		r := random(seed)
		old := anyState(r)
		now := near(r, old)
		diff := difference(old, now)
		switch r.IntN(4) {
		case 0:
			old = near(r, old)
		case 1:
			diff = bent(r, diff)
		case 2:
			diff = forged(r, old, now)
		}
		x, ok := led(old, diff)
		if !ok {
			wrong++
			merges(t, "bent", old.stream(), diff, nil, api.ErrBad)
			continue
		}
		right++
		merges(t, "bent", old.stream(), diff, x.stream(), api.OK)
		diffs(t, "bent", old.stream(), x.stream(), diff, api.OK)
	}
	if right < 4000 || wrong < 4000 {
		t.Errorf("%d right, %d wrong", right, wrong)
	}
}

// forged: what leads from one state to another one, with right marks, but a change too much (or, sometimes, none).
func forged(r *rand.Rand, old, now state) []byte {
	diff := difference(old, now)
	p := &slip{left: diff[:len(diff)-4]}
	p.take(2)
	p.number()
	p.take(4)
	p.number()
	p.take(4)
	head := diff[:len(diff)-4-len(p.left)]
	var changes []api.Change
	for range p.number() {
		c := api.Change{Gone: p.take(1) == "\x01", Key: p.text()}
		if !c.Gone {
			c.Value = p.text()
		}
		changes = append(changes, c)
	}
	key := anyKey(r)
	value, there := now.values[key]
	at, stands := slices.BinarySearchFunc(changes, key, func(c api.Change, key string) int { return bytes.Compare([]byte(c.Key), []byte(key)) })
	if !stands || r.IntN(2) == 0 {
		changes = slices.Insert(changes, at, api.Change{Gone: !there, Key: key, Value: value})
	}
	b := binary.AppendUvarint(slices.Clone(head), uint64(len(changes)))
	for _, c := range changes {
		if c.Gone {
			b = appendText(append(b, 1), c.Key)
		} else {
			b = appendText(appendText(append(b, 0), c.Key), c.Value)
		}
	}
	return sealed(b)
}

// TestLeads: P26.4: there and back, and one after the other; from no other stream.
func TestLeads(t *testing.T) {
	for seed := range uint64(2000) {
		r := random(seed)
		a := anyState(r)
		b, c := near(r, a), near(r, a)
		if seed%3 == 0 {
			c = anyState(r)
		}
		x, y, z := a.stream(), b.stream(), c.stream()
		diffs(t, "a, b", x, y, difference(a, b), api.OK)
		merges(t, "a, b", x, difference(a, b), y, api.OK)
		merges(t, "b, a", y, difference(b, a), x, api.OK)
		between, errno := backup.Merge(x, difference(a, b))
		is(t, "Merge", errno, api.OK)
		last, errno := backup.Diff(y, z)
		is(t, "Diff", errno, api.OK)
		merges(t, "a, b, c", between, last, z, api.OK)
		if !a.same(c) {
			merges(t, "from c", z, difference(a, b), nil, api.ErrBad)
		}
	}
}

// TestOneForm: P26.6: states that differ in little have other streams.
func TestOneForm(t *testing.T) {
	told := map[string]state{}
	for seed := range uint64(3000) {
		r := random(seed % 50)
		s := anyState(r)
		r = random(seed)
		s = near(r, s)
		b := string(s.stream())
		if other, met := told[b]; met && !other.same(s) {
			t.Fatalf("one stream of %v and %v", s, other)
		}
		told[b] = s
		verifies(t, "of a state", []byte(b), len(s.values), s.version, api.OK)
	}
}
