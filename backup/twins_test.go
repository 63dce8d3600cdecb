package backup_test

import (
	"bytes"
	"encoding/binary"
	"testing"

	"bursar/api"
)

// markOf: a stream's mark as a number.
func markOf(s state) uint32 {
	b := s.stream()
	return binary.LittleEndian.Uint32(b[len(b)-4:])
}

// twin: the state whose key k has a value of four bytes by which its stream has this mark. Each bit of the value turns bits of the mark over, whatever the others are: 32 sums, of which those that make the mark are chosen.
func twin(t *testing.T, k string, others state, mark uint32) state {
	t.Helper()
	with := func(v uint32) state {
		s := stateOf(others.version, flat(others)...)
		s.values[k] = string(binary.LittleEndian.AppendUint32(nil, v))
		return s
	}
	none := markOf(with(0))
	var turns, by [32]uint32 // in turns[i] the bit i is the highest; by[i] is the value's bits that turn these over
	for bit := range 32 {
		turned, v := markOf(with(1<<bit))^none, uint32(1)<<bit
		for i := 31; i >= 0 && turned != 0; i-- {
			if turned>>i == 0 {
				continue
			}
			if turns[i] == 0 {
				turns[i], by[i] = turned, v
				break
			}
			turned, v = turned^turns[i], v^by[i]
		}
	}
	value, left := uint32(0), none^mark
	for i := 31; i >= 0; i-- {
		if left>>i&1 == 1 {
			left, value = left^turns[i], value^by[i]
		}
	}
	s := with(value)
	if markOf(s) != mark {
		t.Fatalf("no twin: %x", markOf(s))
	}
	return s
}

// TestTwins: P26.4: two streams of one version with one mark, as an enemy makes them: a difference is from both of them just if it is.
func TestTwins(t *testing.T) {
	a := stateOf(7, "a", "abcd", "b", "1")
	b := twin(t, "a", stateOf(7, "b", "2"), markOf(a))
	if a.same(b) || bytes.Equal(a.stream(), b.stream()) {
		t.Fatal("they are the same")
	}
	far := stateOf(8, "c", "3")
	if !bytes.Equal(difference(a, far), difference(b, far)) {
		t.Fatal("what leads from both isn't the same")
	}
	merges(t, "from the one", a.stream(), difference(a, far), far.stream(), api.OK)
	merges(t, "from the other", b.stream(), difference(a, far), far.stream(), api.OK)
	half := stateOf(8, "a", b.values["a"], "b", "3")
	merges(t, "from the one, some of the other's", a.stream(), difference(a, half), half.stream(), api.OK)
	merges(t, "from the other, nothing new", b.stream(), difference(a, half), nil, api.ErrBad)
	merges(t, "from the one to the other", a.stream(), difference(a, b), b.stream(), api.OK)
	merges(t, "from the other to itself", b.stream(), difference(a, b), nil, api.ErrBad)
	merges(t, "from the one to itself", a.stream(), difference(b, b), a.stream(), api.OK)
}
