package sum_test

import (
	"bytes"
	"math"
	"math/rand/v2"
	"testing"

	"bursar/api"
	"bursar/sum"
)

const longest = 1 << 40

// slow is the sum as the chapter's section Words tells it, bit by bit.
func slow(b []byte) uint32 {
	word := uint32(4294967295)
	for _, c := range b {
		word ^= uint32(c)
		for range 8 {
			out := word & 1
			word >>= 1
			if out == 1 {
				word ^= 2197175160
			}
		}
	}
	return ^word
}

// fourBytes finds the x of four bytes whose sum is the word, by going its 32 places back.
func fourBytes(word uint32) []byte {
	word = ^word
	for range 32 {
		if word>>31 == 1 {
			word = (word^2197175160)<<1 | 1
		} else {
			word <<= 1
		}
	}
	word = ^word
	return []byte{byte(word), byte(word >> 8), byte(word >> 16), byte(word >> 24)}
}

// matrix is a linear map of words: where each single bit goes. It carries sums over bytes 0 with no use of polynomials.
type matrix [32]uint32

func (m *matrix) of(word uint32) uint32 {
	out := uint32(0)
	for i, column := range m {
		if word>>i&1 == 1 {
			out ^= column
		}
	}
	return out
}

func (m *matrix) after(first *matrix) matrix {
	var out matrix
	for i, column := range first {
		out[i] = m.of(column)
	}
	return out
}

// zeros tells the map that n bytes 0 are to the word inside a sum.
func zeros(n int) matrix {
	var power, out matrix
	for i := range power {
		bit := uint32(1) << i
		out[i] = bit
		power[i] = ^slow([]byte{0}) ^ oneZeroBehind(bit)
	}
	for ; n > 0; n >>= 1 {
		if n&1 == 1 {
			out = power.after(&out)
		}
		power = power.after(&power)
	}
	return out
}

// oneZeroBehind tells the inner word behind one byte 0, begun as all ones laid over with the bit.
func oneZeroBehind(bit uint32) uint32 {
	x := fourBytes(bit)
	return ^slow(append(x, 0))
}

// zeroSum is the sum of n bytes 0.
func zeroSum(n int) uint32 {
	m := zeros(n)
	return ^m.of(4294967295)
}

// withZeros is the sum of x and n bytes 0, from the sum of x.
func withZeros(word uint32, n int) uint32 {
	m := zeros(n)
	return ^m.of(^word)
}

func source() *rand.Rand { return rand.New(rand.NewPCG(1, 2)) }

func anyBytes(r *rand.Rand, n int) []byte {
	b := make([]byte, n)
	for i := range b {
		b[i] = byte(r.Uint32())
	}
	return b
}

func anyWords(r *rand.Rand) []uint32 {
	words := []uint32{0, 1, 2, 7, 255, 256, 0x7FFFFFFF, 0x80000000, 0x82F63B78, 0xFFFFFFFE, 0xFFFFFFFF}
	for range 20 {
		words = append(words, r.Uint32())
	}
	return words
}

func fill(n int, at func(i int) byte) []byte {
	b := make([]byte, n)
	for i := range b {
		b[i] = at(i)
	}
	return b
}

func TestHelpers(t *testing.T) {
	for _, w := range anyWords(source()) {
		if got := slow(fourBytes(w)); got != w {
			t.Errorf("the four bytes of %08x have the sum %08x", w, got)
		}
	}
	for n := range 40 {
		if got, want := zeroSum(n), slow(make([]byte, n)); got != want {
			t.Errorf("%d bytes 0: %08x, want %08x", n, got, want)
		}
	}
}

// P1.1: the chapter's examples of Sum.
func TestSumExamples(t *testing.T) {
	for _, c := range []struct {
		b    []byte
		want uint32
	}{
		{nil, 0},
		{[]byte{}, 0},
		{[]byte("a"), 0xC1D04330},
		{[]byte("123456789"), 0xE3069283},
		{[]byte{0}, 0x527D5351},
		{make([]byte, 32), 0x8A9136AA},
		{fill(32, func(int) byte { return 255 }), 0x62A8AB43},
		{fill(32, func(i int) byte { return byte(i) }), 0x46DD794E},
		{fill(32, func(i int) byte { return byte(31 - i) }), 0x113FDB5C},
	} {
		if got := sum.Sum(c.b); got != c.want {
			t.Errorf("Sum(%x) = %08x, want %08x", c.b, got, c.want)
		}
	}
}

// P1.1: Sum is the sum as the chapter tells it, for every byte and many strings.
func TestSumAsTold(t *testing.T) {
	for c := range 256 {
		b := []byte{byte(c)}
		if got, want := sum.Sum(b), slow(b); got != want {
			t.Errorf("Sum(%x) = %08x, want %08x", b, got, want)
		}
	}
	r := source()
	for n := range 600 {
		b := anyBytes(r, n)
		if got, want := sum.Sum(b), slow(b); got != want {
			t.Errorf("Sum(%x) = %08x, want %08x", b, got, want)
		}
	}
}

// P1.1: Update goes on from any word, since each is the sum of some x.
func TestUpdateFromEveryWord(t *testing.T) {
	if got := sum.Update(0xC1D04330, nil); got != 0xC1D04330 {
		t.Errorf("Update by no bytes = %08x", got)
	}
	if got := sum.Update(sum.Sum([]byte("1234")), []byte("56789")); got != 0xE3069283 {
		t.Errorf("Update(1234, 56789) = %08x", got)
	}
	r := source()
	for _, w := range anyWords(r) {
		x := fourBytes(w)
		for n := range 20 {
			b := anyBytes(r, n)
			if got, want := sum.Update(w, b), slow(append(x[:4:4], b...)); got != want {
				t.Errorf("Update(%08x, %x) = %08x, want %08x", w, b, got, want)
			}
		}
	}
}

// P1.1: Join's examples, its edges, and what it refuses.
func TestJoinEdges(t *testing.T) {
	for _, c := range []struct {
		a, b uint32
		n    int
		want uint32
		e    api.Errno
	}{
		{sum.Sum([]byte("1234")), sum.Sum([]byte("56789")), 5, 0xE3069283, api.OK},
		{7, 0, 0, 7, api.OK},
		{7, 5, 0, 2, api.OK},
		{1, 1, -1, 0, api.ErrArg},
		{1, 1, math.MinInt, 0, api.ErrArg},
		{1, 1, longest + 1, 0, api.ErrArg},
		{1, 1, math.MaxInt, 0, api.ErrArg},
		{0, 0, longest, withZeros(0, longest) ^ zeroSum(longest), api.OK},
		{1, 0, longest, withZeros(1, longest) ^ zeroSum(longest), api.OK},
	} {
		got, e := sum.Join(c.a, c.b, c.n)
		if got != c.want || e != c.e {
			t.Errorf("Join(%08x, %08x, %d) = %08x, %d, want %08x, %d", c.a, c.b, c.n, got, e, c.want, c.e)
		}
	}
}

// P1.1: Join at any words, of any length, also where b is the sum of no y of n bytes.
func TestJoinAtAnyWords(t *testing.T) {
	r := source()
	lengths := []int{0, 1, 2, 3, 4, 5, 31, 32, 33, 63, 64, 65, 1 << 20, 1<<31 - 1, 1 << 31, 1<<32 + 1, longest - 1, longest}
	for range 20 {
		lengths = append(lengths, r.IntN(longest))
	}
	words := anyWords(r)
	for _, n := range lengths {
		none := zeroSum(n)
		for i, a := range words {
			b := words[len(words)-1-i]
			want := withZeros(a, n) ^ b ^ none
			if got, e := sum.Join(a, b, n); got != want || e != api.OK {
				t.Errorf("Join(%08x, %08x, %d) = %08x, %d, want %08x", a, b, n, got, e, want)
			}
		}
	}
}

// P1.2: however a string is cut, its pieces make its sum.
func TestPieces(t *testing.T) {
	r := source()
	for _, n := range []int{0, 1, 2, 3, 4, 5, 8, 31, 64, 257} {
		s := anyBytes(r, n)
		want := slow(s)
		for cut := range n + 1 {
			x, y := s[:cut], s[cut:]
			joined, e := sum.Join(sum.Sum(x), sum.Sum(y), len(y))
			if joined != want || e != api.OK {
				t.Errorf("Join: %x cut at %d: %08x, %d", s, cut, joined, e)
			}
			if got := sum.Update(sum.Sum(x), y); got != want {
				t.Errorf("Update: %x cut at %d: %08x", s, cut, got)
			}
			if got := sum.Parts(x, y); got != want {
				t.Errorf("Parts: %x cut at %d: %08x", s, cut, got)
			}
		}
	}
}

// P1.2: many pieces, some of them of no bytes.
func TestManyPieces(t *testing.T) {
	if sum.Parts() != 0 || sum.Parts(nil) != 0 || sum.Parts(nil, []byte{}) != 0 {
		t.Error("Parts of no bytes is not 0")
	}
	if got := sum.Parts([]byte("12"), nil, []byte("3456"), []byte("789")); got != 0xE3069283 {
		t.Errorf("Parts = %08x", got)
	}
	r := source()
	for range 100 {
		s := anyBytes(r, r.IntN(200))
		parts, updated, joined := [][]byte{}, uint32(0), uint32(0)
		for rest := s; len(rest) > 0; {
			cut := r.IntN(min(len(rest), 9) + 1)
			part := rest[:cut]
			rest = rest[cut:]
			parts = append(parts, part)
			updated = sum.Update(updated, part)
			joined, _ = sum.Join(joined, sum.Sum(part), cut)
		}
		want := slow(s)
		if got := sum.Parts(parts...); got != want || updated != want || joined != want {
			t.Errorf("%x: Parts %08x, Update %08x, Join %08x, want %08x", s, got, updated, joined, want)
		}
	}
}

// P1.1: Patch's examples, its edges, and what it refuses.
func TestPatchEdges(t *testing.T) {
	for _, c := range []struct {
		sum      uint32
		n, at    int
		old, now []byte
		want     uint32
		e        api.Errno
	}{
		{0xE3069283, 9, 2, []byte("3"), []byte("3"), 0xE3069283, api.OK},
		{sum.Sum([]byte("120456789")), 9, 2, []byte("0"), []byte("3"), 0xE3069283, api.OK},
		{sum.Sum([]byte("12345678x")), 9, 8, []byte("x"), []byte("9"), 0xE3069283, api.OK},
		{sum.Sum([]byte("xyz456789")), 9, 0, []byte("xyz"), []byte("123"), 0xE3069283, api.OK},
		{0, 0, 0, nil, nil, 0, api.OK},
		{5, 9, 9, []byte{}, nil, 5, api.OK},
		{5, longest, longest, nil, nil, 5, api.OK},
		{5, longest, 0, nil, nil, 5, api.OK},
		{5, 9, 9, []byte("a"), []byte("b"), 0, api.ErrArg},
		{5, 9, 8, []byte("ab"), []byte("cd"), 0, api.ErrArg},
		{5, 9, 0, make([]byte, 10), make([]byte, 10), 0, api.ErrArg},
		{5, 9, 3, []byte("a"), []byte("bc"), 0, api.ErrArg},
		{5, 9, 3, []byte("ab"), []byte("c"), 0, api.ErrArg},
		{5, 9, 3, nil, []byte("c"), 0, api.ErrArg},
		{5, 9, -1, nil, nil, 0, api.ErrArg},
		{5, 9, -1, []byte("a"), []byte("b"), 0, api.ErrArg},
		{5, 9, math.MinInt, []byte("a"), []byte("b"), 0, api.ErrArg},
		{5, 9, 10, nil, nil, 0, api.ErrArg},
		{5, -1, 0, nil, nil, 0, api.ErrArg},
		{5, -1, -1, nil, nil, 0, api.ErrArg},
		{5, math.MinInt, math.MaxInt, []byte("a"), []byte("b"), 0, api.ErrArg},
		{5, longest + 1, 0, nil, nil, 0, api.ErrArg},
		{5, math.MaxInt, 0, []byte("a"), []byte("b"), 0, api.ErrArg},
		{5, 9, math.MaxInt, []byte("a"), []byte("a"), 0, api.ErrArg},
		{5, 9, math.MaxInt, nil, nil, 0, api.ErrArg},
		{5, longest, math.MaxInt, []byte("ab"), []byte("cd"), 0, api.ErrArg},
		{5, 0, math.MaxInt, []byte("ab"), []byte("cd"), 0, api.ErrArg},
		{5, longest, longest, []byte("a"), []byte("b"), 0, api.ErrArg},
	} {
		got, e := sum.Patch(c.sum, c.n, c.at, c.old, c.now)
		if got != c.want || e != c.e {
			t.Errorf("Patch(%08x, %d, %d, %q, %q) = %08x, %d, want %08x, %d", c.sum, c.n, c.at, c.old, c.now, got, e, c.want, c.e)
		}
	}
}

// P1.1: Patch at any words and of great lengths is the exclusive or that the chapter tells.
func TestPatchAtAnyWords(t *testing.T) {
	r := source()
	words := anyWords(r)
	for _, n := range []int{40, 1000, 1<<32 + 5, longest - 1, longest} {
		for _, at := range []int{0, 1, n / 2, n - 17, n - 16} {
			old, now := anyBytes(r, 16), anyBytes(r, 16)
			behind := n - at - 16
			laid := withZeros(slow(old), behind) ^ withZeros(slow(now), behind)
			for _, w := range words {
				if got, e := sum.Patch(w, n, at, old, now); got != w^laid || e != api.OK {
					t.Errorf("Patch(%08x, %d, %d, %x, %x) = %08x, %d, want %08x", w, n, at, old, now, got, e, w^laid)
				}
			}
		}
	}
}

// P1.3: the sum of a string with its middle changed, at every place and length.
func TestMiddle(t *testing.T) {
	r := source()
	for _, n := range []int{0, 1, 2, 5, 9, 40} {
		s := anyBytes(r, n)
		for at := range n + 1 {
			for size := range n - at + 1 {
				now := anyBytes(r, size)
				changed := bytes.Clone(s)
				copy(changed[at:], now)
				want := slow(changed)
				if got, e := sum.Patch(slow(s), n, at, s[at:at+size], now); got != want || e != api.OK {
					t.Errorf("%x with %x at %d: %08x, %d, want %08x", s, now, at, got, e, want)
				}
			}
		}
	}
}

// burst lays the pattern's bits over a copy of s from the bit first on; those that would stand behind its end fall away.
func burst(s []byte, first int, pattern uint32) []byte {
	out := bytes.Clone(s)
	for i := range 32 {
		if at := first + i; pattern>>i&1 == 1 && at < 8*len(s) {
			out[at/8] ^= 1 << (at % 8)
		}
	}
	return out
}

func patterns(r *rand.Rand) []uint32 {
	out := []uint32{3, 0x80000001, 0xFFFFFFFF, 0x82F63B78, 0x82F63B79, 0x1EDC6F41, 0x05EC76F1, 0x0BD8EDE3}
	for i := range 32 {
		out = append(out, 1<<i)
	}
	for range 60 {
		out = append(out, r.Uint32())
	}
	return out
}

// P1.4: a burst of up to 32 bits changes the sum, and Open refuses it anywhere in what Seal answered.
func TestBurst(t *testing.T) {
	r := source()
	for _, n := range []int{0, 1, 2, 3, 4, 9, 20} {
		s := anyBytes(r, n)
		sealed := sum.Seal(s)
		for _, pattern := range patterns(r) {
			for first := range 8 * len(sealed) {
				other := burst(s, first, pattern)
				if !bytes.Equal(other, s) && sum.Sum(other) == sum.Sum(s) {
					t.Errorf("%x and %x have one sum", s, other)
				}
				broken := burst(sealed, first, pattern)
				if bytes.Equal(broken, sealed) {
					continue
				}
				if b, e := sum.Open(broken); b != nil || e != api.ErrBad {
					t.Errorf("Open(%x) = %x, %d", broken, b, e)
				}
			}
		}
	}
}

// independent tells whether no exclusive or of some of the words is 0.
func independent(words []uint32) bool {
	var lead [32]uint32
next:
	for _, w := range words {
		for i := 31; i >= 0; i-- {
			if w>>i&1 == 0 {
				continue
			}
			if lead[i] == 0 {
				lead[i] = w
				continue next
			}
			w ^= lead[i]
		}
		return false
	}
	return true
}

// P1.4: all bursts at once. What a bit's change does to the sum doesn't hang on the other bits, so if the changes of 32 neighbours are independent, no burst of them is missed.
func TestEveryBurst(t *testing.T) {
	const n = 600
	s := anyBytes(source(), n)
	whole := sum.Sum(s)
	changes := make([]uint32, 8*n)
	for i := range changes {
		changes[i] = sum.Sum(burst(s, i, 1)) ^ whole
	}
	for first := range len(changes) - 31 {
		if !independent(changes[first : first+32]) {
			t.Errorf("a burst from bit %d on is missed", first)
		}
	}
}

// P1.5: Open takes back what Seal made.
func TestSealOpen(t *testing.T) {
	for _, none := range [][]byte{nil, {}} {
		if got := sum.Seal(none); !bytes.Equal(got, []byte{0, 0, 0, 0}) {
			t.Errorf("Seal of no bytes = %x", got)
		}
	}
	if got := sum.Seal([]byte("123456789")); string(got) != "123456789\x83\x92\x06\xe3" {
		t.Errorf("Seal(123456789) = %x", got)
	}
	r := source()
	for n := range 300 {
		b := anyBytes(r, n)
		w := slow(b)
		sealed := sum.Seal(b)
		if want := append(bytes.Clone(b), byte(w), byte(w>>8), byte(w>>16), byte(w>>24)); !bytes.Equal(sealed, want) {
			t.Errorf("Seal(%x) = %x, want %x", b, sealed, want)
		}
		if got, e := sum.Open(sealed); !bytes.Equal(got, b) || e != api.OK {
			t.Errorf("Open(Seal(%x)) = %x, %d", b, got, e)
		}
	}
}

// P1.1: what Open refuses.
func TestOpenRefuses(t *testing.T) {
	for _, c := range []struct {
		b []byte
		e api.Errno
	}{
		{nil, api.ErrShort},
		{[]byte{}, api.ErrShort},
		{[]byte{0}, api.ErrShort},
		{[]byte("abc"), api.ErrShort},
		{[]byte{0, 0, 0}, api.ErrShort},
		{[]byte("abcd"), api.ErrBad},
		{[]byte{0, 0, 0, 1}, api.ErrBad},
		{[]byte{0, 0, 0, 0, 0}, api.ErrBad},
		{[]byte("123456789\xe3\x06\x92\x83"), api.ErrBad},
		{[]byte("123456789\x83\x92\x06\xe3\x00"), api.ErrBad},
		{[]byte("123456789\x83\x92\x06"), api.ErrBad},
	} {
		if got, e := sum.Open(c.b); got != nil || e != c.e {
			t.Errorf("Open(%x) = %x, %d, want %d", c.b, got, e, c.e)
		}
	}
}

// P1.5: what Open takes, Seal of its answer gives again; and it takes nothing else.
func TestOpenSeal(t *testing.T) {
	r := source()
	for range 2000 {
		b := anyBytes(r, 4+r.IntN(12))
		n := len(b) - 4
		if r.IntN(2) == 0 {
			w := slow(b[:n])
			copy(b[n:], []byte{byte(w), byte(w >> 8), byte(w >> 16), byte(w >> 24)})
		}
		w := uint32(b[n]) | uint32(b[n+1])<<8 | uint32(b[n+2])<<16 | uint32(b[n+3])<<24
		got, e := sum.Open(b)
		if took := e == api.OK; took != (w == slow(b[:n])) {
			t.Errorf("Open(%x) answers %d", b, e)
		} else if took && !bytes.Equal(sum.Seal(got), b) {
			t.Errorf("Seal(Open(%x)) = %x", b, sum.Seal(got))
		}
	}
}

// roomy gives b with spare room behind it, and the whole of that memory.
func roomy(b []byte) (part, whole []byte) {
	whole = append(bytes.Clone(b), 1, 2, 3, 4, 5, 6, 7, 8)
	return whole[:len(b)], whole
}

// P1.1: nothing that is handed in is changed, its spare room neither.
func TestNothingIsChanged(t *testing.T) {
	sealed := sum.Seal([]byte("123456789"))
	a, wholeA := roomy(sealed)
	b, wholeB := roomy([]byte("abcdefghijklm"))
	keptA, keptB := bytes.Clone(wholeA), bytes.Clone(wholeB)
	sum.Sum(a)
	sum.Update(3, a)
	sum.Patch(3, 40, 2, a, b)
	list := [][]byte{a, b, nil}
	sum.Parts(list...)
	sum.Seal(a)
	sum.Open(a)
	sum.Open(b)
	if !bytes.Equal(wholeA, keptA) || !bytes.Equal(wholeB, keptB) {
		t.Errorf("changed: %x, %x", wholeA, wholeB)
	}
	if len(list) != 3 || len(list[0]) != len(a) || &list[0][0] != &a[0] || &list[1][0] != &b[0] || list[2] != nil {
		t.Error("the list of parts is changed")
	}
}

// P1.1: what is answered is new memory.
func TestAnswersAreNew(t *testing.T) {
	for _, text := range []string{"", "1", "123456789"} {
		b, whole := roomy([]byte(text))
		kept := bytes.Clone(whole)
		sealed := sum.Seal(b)
		again := sum.Seal(b)
		for i := range sealed[:cap(sealed)] {
			sealed[:cap(sealed)][i] ^= 255
		}
		if !bytes.Equal(whole, kept) || string(again[:len(b)]) != text {
			t.Errorf("Seal(%q) shares memory", text)
		}
		part, whole := roomy(again)
		kept = bytes.Clone(whole)
		opened, _ := sum.Open(part)
		other, _ := sum.Open(part)
		for i := range opened[:cap(opened)] {
			opened[:cap(opened)][i] ^= 255
		}
		if !bytes.Equal(whole, kept) || string(other) != text {
			t.Errorf("Open of the sealed %q shares memory", text)
		}
	}
}
