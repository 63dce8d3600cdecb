package pack_test

import (
	"bytes"
	"math"
	"math/big"
	"math/rand/v2"
	"slices"
	"strings"
	"testing"

	"bursar/api"
	"bursar/pack"
)

func source() *rand.Rand { return rand.New(rand.NewPCG(1, 2)) }

// formOf is the form of a number as the chapter's section Words tells it, worked out in great numbers.
func formOf(v *big.Int) []byte {
	rest, group, base := new(big.Int).Set(v), new(big.Int), big.NewInt(128)
	var form []byte
	for {
		rest.DivMod(rest, base, group)
		if rest.Sign() == 0 {
			return append(form, byte(group.Int64()))
		}
		form = append(form, byte(group.Int64()+128))
	}
}

// signedOf is 2v or -2v - 1, in great numbers.
func signedOf(v int64) *big.Int {
	twice := new(big.Int).Mul(big.NewInt(v), big.NewInt(2))
	if v < 0 {
		return twice.Neg(twice).Sub(twice, big.NewInt(1))
	}
	return twice
}

// kinds of values, numbered for the tests.
const (
	aUint = iota
	anInt
	aBool
	aByte
	aText
	aCount
	kinds
)

// value is one value of some kind; u is the number, the byte, the truth as 0 or 1, or the count.
type value struct {
	kind int
	u    uint64
	i    int64
	s    string
}

// form is the value's form as the chapter tells it.
func (v value) form() []byte {
	switch v.kind {
	case anInt:
		return formOf(signedOf(v.i))
	case aBool, aByte:
		return []byte{byte(v.u)}
	case aText:
		return append(formOf(big.NewInt(int64(len(v.s)))), v.s...)
	default:
		return formOf(new(big.Int).SetUint64(v.u))
	}
}

// write calls the writer's method of the value's kind.
func (v value) write(w *pack.Writer) {
	switch v.kind {
	case aUint:
		w.Uint(v.u)
	case anInt:
		w.Int(v.i)
	case aBool:
		w.Bool(v.u == 1)
	case aByte:
		w.Byte(byte(v.u))
	case aText:
		w.Text(v.s)
	case aCount:
		w.Count(int(v.u))
	}
}

// read calls the reader's method of a kind.
func read(r *pack.Reader, kind, most int) value {
	v := value{kind: kind}
	switch kind {
	case aUint:
		v.u = r.Uint()
	case anInt:
		v.i = r.Int()
	case aBool:
		if r.Bool() {
			v.u = 1
		}
	case aByte:
		v.u = uint64(r.Byte())
	case aText:
		v.s = r.Text(most)
	case aCount:
		v.u = uint64(r.Count(most))
	}
	return v
}

// model is a reader as the chapter tells it.
type model struct {
	b []byte
	e api.Errno
}

// number follows the chapter's four refusals of Uint, in their order.
func (m *model) number() (*big.Int, int) {
	end := slices.IndexFunc(m.b, func(c byte) bool { return c < 128 })
	switch {
	case end < 0 && len(m.b) < 10:
		m.e = api.ErrShort
	case end < 0 || end >= 10:
		m.e = api.ErrForm
	case end > 0 && m.b[end] == 0:
		m.e = api.ErrForm
	case end == 9 && m.b[end] > 1:
		m.e = api.ErrForm
	}
	if m.e != api.OK {
		return nil, 0
	}
	v := new(big.Int)
	for i := end; i >= 0; i-- {
		v.Mul(v, big.NewInt(128)).Add(v, big.NewInt(int64(m.b[i]%128)))
	}
	return v, end + 1
}

func (m *model) read(kind, most int) value {
	out := value{kind: kind}
	if m.e != api.OK {
		return out
	}
	if kind == aByte || kind == aBool {
		if len(m.b) == 0 {
			m.e = api.ErrShort
		} else if kind == aBool && m.b[0] > 1 {
			m.e = api.ErrForm
		} else {
			out.u = uint64(m.b[0])
			m.b = m.b[1:]
		}
		return out
	}
	v, size := m.number()
	if m.e != api.OK {
		return out
	}
	if kind == aText || kind == aCount {
		if v.Cmp(big.NewInt(int64(most))) > 0 || kind == aCount && v.Cmp(big.NewInt(4096)) > 0 {
			m.e = api.ErrLong
			return out
		}
	}
	switch kind {
	case aUint, aCount:
		out.u = v.Uint64()
	case anInt:
		half := new(big.Int).Rsh(v, 1)
		if v.Bit(0) == 1 {
			half.Neg(half).Sub(half, big.NewInt(1))
		}
		out.i = half.Int64()
	case aText:
		if v.Cmp(big.NewInt(int64(len(m.b)-size))) > 0 {
			m.e = api.ErrShort
			return out
		}
		out.s = string(m.b[size : size+int(v.Int64())])
		size += len(out.s)
	}
	m.b = m.b[size:]
	return out
}

// edgeNumbers has all powers of two and their neighbours.
func edgeNumbers() []uint64 {
	l := []uint64{0, math.MaxUint64}
	for i := range 64 {
		p := uint64(1) << i
		l = append(l, p-1, p, p+1)
	}
	return l
}

func anyNumber(r *rand.Rand) uint64 { return r.Uint64() >> r.IntN(64) }

func anyText(r *rand.Rand, most int) string {
	b := make([]byte, r.IntN(most+1))
	for i := range b {
		b[i] = byte(r.Uint32())
	}
	return string(b)
}

// anyValue is a value that a writer takes.
func anyValue(r *rand.Rand, kind int) value {
	v := value{kind: kind}
	switch kind {
	case aUint:
		v.u = anyNumber(r)
	case anInt:
		v.i = int64(anyNumber(r))
		if r.IntN(2) == 0 {
			v.i = -v.i
		}
	case aBool:
		v.u = uint64(r.IntN(2))
	case aByte:
		v.u = uint64(r.IntN(256))
	case aText:
		v.s = anyText(r, 150)
	case aCount:
		v.u = uint64(r.IntN(4097))
	}
	return v
}

// P2.1: the chapter's examples of forms, written and read.
func TestFormExamples(t *testing.T) {
	for _, c := range []struct {
		v    value
		form string
	}{
		{value{kind: aUint, u: 0}, "\x00"},
		{value{kind: aUint, u: 127}, "\x7f"},
		{value{kind: aUint, u: 128}, "\x80\x01"},
		{value{kind: aUint, u: 300}, "\xac\x02"},
		{value{kind: aUint, u: 1 << 63}, "\x80\x80\x80\x80\x80\x80\x80\x80\x80\x01"},
		{value{kind: aUint, u: math.MaxUint64}, "\xff\xff\xff\xff\xff\xff\xff\xff\xff\x01"},
		{value{kind: anInt, i: 0}, "\x00"},
		{value{kind: anInt, i: -1}, "\x01"},
		{value{kind: anInt, i: 1}, "\x02"},
		{value{kind: anInt, i: -64}, "\x7f"},
		{value{kind: anInt, i: 64}, "\x80\x01"},
		{value{kind: anInt, i: math.MinInt64}, "\xff\xff\xff\xff\xff\xff\xff\xff\xff\x01"},
		{value{kind: anInt, i: math.MaxInt64}, "\xfe\xff\xff\xff\xff\xff\xff\xff\xff\x01"},
		{value{kind: aText, s: "abc"}, "\x03abc"},
		{value{kind: aText, s: ""}, "\x00"},
		{value{kind: aBool, u: 1}, "\x01"},
		{value{kind: aBool, u: 0}, "\x00"},
		{value{kind: aByte, u: 0}, "\x00"},
		{value{kind: aByte, u: 200}, "\xc8"},
		{value{kind: aCount, u: 0}, "\x00"},
		{value{kind: aCount, u: 4096}, "\x80\x20"},
	} {
		w := pack.NewWriter(20)
		c.v.write(w)
		if b, e := w.Out(); string(b) != c.form || e != api.OK || w.Len() != len(c.form) || w.Err() != api.OK {
			t.Errorf("%+v is written as %x, %d, want %x", c.v, b, e, c.form)
		}
		r := pack.NewReader([]byte(c.form))
		if v := read(r, c.v.kind, 4096); v != c.v || r.End() != api.OK || r.Left() != 0 {
			t.Errorf("%x is read as %+v, %d, want %+v", c.form, v, r.Err(), c.v)
		}
	}
}

// P2.1: the forms of numbers around every power of two, of all bytes, of texts around the lengths where the length grows.
func TestFormsAtEdges(t *testing.T) {
	var values []value
	for _, u := range edgeNumbers() {
		values = append(values, value{kind: aUint, u: u}, value{kind: anInt, i: int64(u)}, value{kind: anInt, i: -int64(u)})
	}
	for c := range 256 {
		values = append(values, value{kind: aByte, u: uint64(c)})
	}
	for _, n := range []int{1, 126, 127, 128, 129, 16383, 16384, 16385} {
		values = append(values, value{kind: aText, s: strings.Repeat("\xff\x00", n)[:n]})
	}
	for n := range uint64(4097) {
		values = append(values, value{kind: aCount, u: n})
	}
	for _, v := range values {
		w := pack.NewWriter(20000)
		v.write(w)
		if b, e := w.Out(); !bytes.Equal(b, v.form()) || e != api.OK {
			t.Errorf("%+v is written as %x, %d, want %x", v, b, e, v.form())
		}
		r := pack.NewReader(v.form())
		if got := read(r, v.kind, 20000); got != v || r.End() != api.OK {
			t.Errorf("%x is read as %+v, %d, want %+v", v.form(), got, r.Err(), v)
		}
	}
}

// P2.1: a writer's limit is cut to 0 .. api.MaxWriter.
func TestWriterLimits(t *testing.T) {
	for _, c := range []struct{ limit, takes int }{
		{math.MinInt, 0}, {-5, 0}, {-1, 0}, {0, 0}, {1, 1}, {2, 2}, {300, 300},
		{api.MaxWriter - 1, api.MaxWriter - 1}, {api.MaxWriter, api.MaxWriter}, {api.MaxWriter + 1, api.MaxWriter}, {math.MaxInt, api.MaxWriter},
	} {
		w := pack.NewWriter(c.limit)
		for n := 0; w.Err() == api.OK; n++ {
			if w.Len() != n || n > c.takes {
				t.Fatalf("NewWriter(%d): %d bytes behind %d", c.limit, w.Len(), n)
			}
			w.Byte(byte(n))
		}
		if b, e := w.Out(); b != nil || e != api.ErrLong || w.Len() != c.takes || w.Err() != api.ErrLong {
			t.Errorf("NewWriter(%d): %d bytes told, %d; takes %d, want %d", c.limit, len(b), e, w.Len(), c.takes)
		}
		if b, e := pack.NewWriter(c.limit).Out(); len(b) != 0 || e != api.OK {
			t.Errorf("NewWriter(%d) tells %x, %d", c.limit, b, e)
		}
	}
}

// P2.1: every kind fits just if its whole form does, and nothing of it is laid if not.
func TestWriterIsExact(t *testing.T) {
	for _, v := range []value{
		{kind: aUint, u: 0}, {kind: aUint, u: 128}, {kind: aUint, u: math.MaxUint64},
		{kind: anInt, i: -65}, {kind: anInt, i: math.MinInt64},
		{kind: aBool, u: 1}, {kind: aByte, u: 9}, {kind: aCount, u: 4096},
		{kind: aText}, {kind: aText, s: "x"}, {kind: aText, s: strings.Repeat("x", 128)}, {kind: aText, s: strings.Repeat("x", 1<<21)},
	} {
		size := len(v.form())
		for limit := range min(size, 200) {
			w := pack.NewWriter(limit + 2)
			w.Byte(1)
			w.Byte(2)
			v.write(w)
			if b, e := w.Out(); b != nil || e != api.ErrLong || w.Len() != 2 || w.Err() != api.ErrLong {
				t.Errorf("a form of %d bytes into %d: %x, %d, %d bytes", size, limit, b, e, w.Len())
			}
		}
		if size > api.MaxWriter {
			continue
		}
		w := pack.NewWriter(size + 2)
		w.Byte(1)
		w.Byte(2)
		v.write(w)
		if b, e := w.Out(); !bytes.Equal(b, append([]byte{1, 2}, v.form()...)) || e != api.OK {
			t.Errorf("a form of %d bytes into as many: %x, %d", size, b, e)
		}
	}
}

// P2.1: a text and the writer's greatest limit.
func TestLongestText(t *testing.T) {
	w := pack.NewWriter(api.MaxWriter)
	w.Text(strings.Repeat("y", api.MaxWriter-3))
	if b, e := w.Out(); len(b) != api.MaxWriter || e != api.OK || string(b[:4]) != "\xfd\xff\x3fy" {
		t.Errorf("the longest text: %d bytes, %d", len(b), e)
	}
	w = pack.NewWriter(api.MaxWriter)
	w.Text(strings.Repeat("y", api.MaxWriter-2))
	if w.Len() != 0 || w.Err() != api.ErrLong {
		t.Errorf("one byte more: %d bytes, %d", w.Len(), w.Err())
	}
}

// P2.1: counts that may not be; that is looked at ahead of the room, but not behind another failure.
func TestCountRefuses(t *testing.T) {
	for _, n := range []int{-1, 4097, math.MinInt, math.MaxInt, 1 << 32, 1 << 40} {
		for _, limit := range []int{0, 1, 10} {
			w := pack.NewWriter(limit)
			w.Count(n)
			w.Byte(1)
			w.Count(1)
			if b, e := w.Out(); b != nil || e != api.ErrArg || w.Err() != api.ErrArg || w.Len() != 0 {
				t.Errorf("Count(%d) into %d bytes: %x, %d", n, limit, b, e)
			}
		}
	}
	w := pack.NewWriter(1)
	w.Count(4096)
	w.Count(-1)
	if w.Err() != api.ErrLong || w.Len() != 0 {
		t.Errorf("Count(4096) into one byte, then Count(-1): %d, %d bytes", w.Err(), w.Len())
	}
}

// P2.1: behind a writer's first failure every call does nothing, and the error stays.
func TestWriterStaysFailed(t *testing.T) {
	w := pack.NewWriter(3)
	w.Uint(300)
	if b, e := w.Out(); string(b) != "\xac\x02" || e != api.OK || w.Len() != 2 {
		t.Errorf("Uint(300): %x, %d", b, e)
	}
	w.Text("x")
	for range 2 {
		w.Uint(0)
		w.Int(0)
		w.Bool(false)
		w.Byte(7)
		w.Text("")
		w.Count(0)
		w.Count(-1)
		if b, e := w.Out(); b != nil || e != api.ErrLong || w.Err() != api.ErrLong || w.Len() != 2 {
			t.Errorf("a failed writer: %x, %d, %d, %d bytes", b, e, w.Err(), w.Len())
		}
	}
	w = pack.NewWriter(2)
	w.Byte(5)
	w.Count(4097)
	w.Byte(5)
	w.Text("xx")
	if b, e := w.Out(); b != nil || e != api.ErrArg || w.Err() != api.ErrArg || w.Len() != 1 {
		t.Errorf("a writer with a bad count: %x, %d, %d, %d bytes", b, e, w.Err(), w.Len())
	}
}

// P2.1: writers against the chapter's words, in any order of calls, Out among them.
func TestWriterInAnyOrder(t *testing.T) {
	r := source()
	for range 3000 {
		limit := r.IntN(200) - 10
		w, want, wrong := pack.NewWriter(limit), []byte{}, api.OK
		for range r.IntN(20) {
			v := anyValue(r, r.IntN(kinds))
			if v.kind == aCount && r.IntN(8) == 0 {
				v.u += 4097
			}
			v.write(w)
			switch {
			case wrong != api.OK:
			case v.kind == aCount && v.u > 4096:
				wrong = api.ErrArg
			case len(want)+len(v.form()) > limit:
				wrong = api.ErrLong
			default:
				want = append(want, v.form()...)
			}
			if w.Len() != len(want) || w.Err() != wrong {
				t.Fatalf("%+v: %d bytes, %d, want %d, %d", v, w.Len(), w.Err(), len(want), wrong)
			}
			b, e := w.Out()
			if e != wrong || wrong == api.OK && !bytes.Equal(b, want) || wrong != api.OK && b != nil {
				t.Fatalf("Out: %x, %d, want %x, %d", b, e, want, wrong)
			}
		}
	}
}

// P2.1: the chapter's examples of what readers refuse, and their edges.
func TestReaderRefuses(t *testing.T) {
	ff := strings.Repeat("\xff", 12)
	zero := strings.Repeat("\x80", 12)
	for _, c := range []struct {
		b    string
		kind int
		most int
		e    api.Errno
	}{
		{"", aUint, 0, api.ErrShort}, {"\x80", aUint, 0, api.ErrShort}, {"\x80\x00", aUint, 0, api.ErrForm}, {"\x80\x00\x01", aUint, 0, api.ErrForm},
		{ff[:9], aUint, 0, api.ErrShort}, {ff[:10], aUint, 0, api.ErrForm}, {ff[:11], aUint, 0, api.ErrForm}, {ff[:10] + "\x01", aUint, 0, api.ErrForm},
		{ff[:9] + "\x02", aUint, 0, api.ErrForm}, {ff[:9] + "\x00", aUint, 0, api.ErrForm}, {ff[:9] + "\x7f", aUint, 0, api.ErrForm}, {ff[:8] + "\x00", aUint, 0, api.ErrForm},
		{zero[:9], aUint, 0, api.ErrShort}, {zero[:10], aUint, 0, api.ErrForm}, {zero[:9] + "\x02", aUint, 0, api.ErrForm}, {zero[:9] + "\x00", aUint, 0, api.ErrForm},
		{"", anInt, 0, api.ErrShort}, {"\x80", anInt, 0, api.ErrShort}, {"\x80\x00", anInt, 0, api.ErrForm}, {ff[:10], anInt, 0, api.ErrForm}, {ff[:9] + "\x02", anInt, 0, api.ErrForm},
		{"", aByte, 0, api.ErrShort}, {"", aBool, 0, api.ErrShort}, {"\x02", aBool, 0, api.ErrForm}, {"\xff", aBool, 0, api.ErrForm}, {"\x80\x01", aBool, 0, api.ErrForm},
		{"\x03ab", aText, 2, api.ErrLong}, {"\x03ab", aText, 3, api.ErrShort}, {"\x03ab", aText, -1, api.ErrLong}, {"\x00", aText, -1, api.ErrLong}, {"\x00", aText, math.MinInt, api.ErrLong},
		{"\x03abc", aText, 2, api.ErrLong}, {"\x03", aText, math.MaxInt, api.ErrShort}, {"\x01", aText, 1, api.ErrShort}, {"\x01", aText, 0, api.ErrLong},
		{"", aText, 5, api.ErrShort}, {"", aText, -1, api.ErrShort}, {"\x80\x00", aText, -1, api.ErrForm}, {ff[:10], aText, 0, api.ErrForm},
		{ff[:9] + "\x01", aText, math.MaxInt, api.ErrLong}, {zero[:9] + "\x01", aText, math.MaxInt, api.ErrLong}, {ff[:8] + "\x7f", aText, math.MaxInt, api.ErrShort}, {ff[:8] + "\x7f", aText, math.MaxInt - 1, api.ErrLong},
		{"\x05\x01", aCount, 4, api.ErrLong}, {"\x00", aCount, -1, api.ErrLong}, {"\x00", aCount, math.MinInt, api.ErrLong}, {"\x81\x20", aCount, 4097, api.ErrLong}, {"\x81\x20", aCount, math.MaxInt, api.ErrLong},
		{"\x80\x20", aCount, 4095, api.ErrLong}, {ff[:9] + "\x01", aCount, math.MaxInt, api.ErrLong}, {"", aCount, 9, api.ErrShort}, {"", aCount, -1, api.ErrShort}, {"\x80\x00", aCount, -1, api.ErrForm},
	} {
		r := pack.NewReader([]byte(c.b))
		if v := read(r, c.kind, c.most); v != (value{kind: c.kind}) || r.Err() != c.e || r.Left() != len(c.b) {
			t.Errorf("kind %d, most %d, of %x: %+v, %d, %d left; want %d", c.kind, c.most, c.b, v, r.Err(), r.Left(), c.e)
		}
		if e := r.End(); e != c.e || r.Err() != c.e {
			t.Errorf("kind %d, most %d, of %x: End tells %d, want %d", c.kind, c.most, c.b, e, c.e)
		}
	}
}

// P2.1: what readers just take.
func TestReaderTakes(t *testing.T) {
	for _, c := range []struct {
		b    string
		most int
		v    value
		left int
	}{
		{"\x03abcd", 3, value{kind: aText, s: "abc"}, 1},
		{"\x03abc", math.MaxInt, value{kind: aText, s: "abc"}, 0},
		{"\x00", 0, value{kind: aText}, 0},
		{"\x05\x01", 5, value{kind: aCount, u: 5}, 1},
		{"\x80\x20\x09", 4096, value{kind: aCount, u: 4096}, 1},
		{"\x80\x20", math.MaxInt, value{kind: aCount, u: 4096}, 0},
		{"\x00", 0, value{kind: aCount}, 0},
		{"\xff\xff", 0, value{kind: aByte, u: 255}, 1},
		{"\x01\x80", 0, value{kind: aBool, u: 1}, 1},
		{"\x00\x80", 0, value{kind: aUint}, 1},
	} {
		r := pack.NewReader([]byte(c.b))
		if v := read(r, c.v.kind, c.most); v != c.v || r.Err() != api.OK || r.Left() != c.left {
			t.Errorf("%x: %+v, %d, %d left; want %+v, %d", c.b, v, r.Err(), r.Left(), c.v, c.left)
		}
	}
}

// P2.1: End, and what it leaves behind.
func TestEnd(t *testing.T) {
	for _, none := range [][]byte{nil, {}} {
		r := pack.NewReader(none)
		if r.End() != api.OK || r.End() != api.OK || r.Left() != 0 || r.Err() != api.OK {
			t.Errorf("End of nothing: %d", r.End())
		}
		if r.Byte() != 0 || r.End() != api.ErrShort {
			t.Errorf("a byte of nothing: %d", r.End())
		}
	}
	r := pack.NewReader([]byte{5, 1})
	if n := r.Count(5); n != 5 || r.Left() != 1 || r.End() != api.ErrTrail || r.Err() != api.ErrTrail || r.Left() != 1 {
		t.Errorf("Count(5) = %d, %d left, %d", n, r.Left(), r.Err())
	}
	for kind := range kinds {
		if v := read(r, kind, 9); v != (value{kind: kind}) || r.Err() != api.ErrTrail || r.Left() != 1 {
			t.Errorf("behind ErrTrail: %+v, %d, %d left", v, r.Err(), r.Left())
		}
	}
	if e := r.End(); e != api.ErrTrail {
		t.Errorf("End once more: %d", e)
	}
}

// P2.1: behind a reader's first failure every call tells nothing and does nothing, and the error stays.
func TestReaderStaysFailed(t *testing.T) {
	r := pack.NewReader([]byte{2, 1, 1, 1})
	r.Bool()
	for range 2 {
		for kind := range kinds {
			if v := read(r, kind, 9); v != (value{kind: kind}) || r.Err() != api.ErrForm || r.Left() != 4 {
				t.Errorf("behind ErrForm: %+v, %d, %d left", v, r.Err(), r.Left())
			}
		}
		if e := r.End(); e != api.ErrForm {
			t.Errorf("behind ErrForm: End tells %d", e)
		}
	}
}

// someBytes has many bytes that numbers end with or go on with.
func someBytes(r *rand.Rand, n int) []byte {
	b := make([]byte, n)
	for i := range b {
		switch r.IntN(4) {
		case 0:
			b[i] = byte(r.IntN(4))
		case 1:
			b[i] = 128 + byte(r.IntN(2))
		case 2:
			b[i] = 255
		default:
			b[i] = byte(r.Uint32())
		}
	}
	return b
}

func anyMost(r *rand.Rand) int {
	switch r.IntN(4) {
	case 0:
		return r.IntN(8) - 3
	case 1:
		return 4090 + r.IntN(12)
	case 2:
		return math.MaxInt
	default:
		return int(r.Uint64())
	}
}

// P2.1, P2.3: readers of any bytes, by any calls, against the chapter's words; and what a value was taken from is what a writer lays for it.
func TestReaderInAnyOrder(t *testing.T) {
	r := source()
	for range 60000 {
		b := someBytes(r, r.IntN(24))
		reader, m := pack.NewReader(b), &model{b: b}
		for range 6 {
			kind, most := r.IntN(kinds), anyMost(r)
			ahead := m.b
			want := m.read(kind, most)
			got := read(reader, kind, most)
			if got != want || reader.Err() != m.e || reader.Left() != len(m.b) {
				t.Fatalf("kind %d, most %d, of %x: %+v, %d, %d left; want %+v, %d, %d", kind, most, ahead, got, reader.Err(), reader.Left(), want, m.e, len(m.b))
			}
			if m.e != api.OK {
				continue
			}
			w := pack.NewWriter(api.MaxWriter)
			got.write(w)
			if form, e := w.Out(); !bytes.Equal(form, ahead[:len(ahead)-len(m.b)]) || e != api.OK {
				t.Fatalf("%+v was read from %x and is written as %x, %d", got, ahead, form, e)
			}
		}
		if m.e == api.OK && len(m.b) > 0 {
			m.e = api.ErrTrail
		}
		if e := reader.End(); e != m.e || reader.Err() != m.e {
			t.Fatalf("End tells %d, want %d", e, m.e)
		}
	}
}

// P2.3: every string of up to two bytes, by every kind.
func TestEveryShortForm(t *testing.T) {
	for n := range 256 * 256 {
		for size := range 3 {
			b := []byte{byte(n), byte(n >> 8)}[:size]
			for kind := range kinds {
				m, reader := &model{b: b}, pack.NewReader(b)
				want := m.read(kind, 4096)
				if got := read(reader, kind, 4096); got != want || reader.Err() != m.e || reader.Left() != len(m.b) {
					t.Fatalf("kind %d of %x: %+v, %d", kind, b, got, reader.Err())
				}
				w := pack.NewWriter(2)
				want.write(w)
				if form, _ := w.Out(); m.e == api.OK && !bytes.Equal(form, b[:size-len(m.b)]) {
					t.Fatalf("kind %d of %x is written again as %x", kind, b, form)
				}
			}
		}
	}
}

// P2.3: a text's one form at the limit, and beyond it.
func TestOneFormOfLongTexts(t *testing.T) {
	for _, n := range []int{api.MaxWriter - 4, api.MaxWriter - 3, api.MaxWriter - 2, api.MaxWriter, api.MaxWriter + 1} {
		form := value{kind: aText, s: strings.Repeat("z", n)}.form()
		r := pack.NewReader(form)
		s := r.Text(math.MaxInt)
		if len(s) != n || r.End() != api.OK {
			t.Errorf("a text of %d bytes is read as one of %d, %d", n, len(s), r.Err())
		}
		w := pack.NewWriter(api.MaxWriter)
		w.Text(s)
		b, e := w.Out()
		if len(form) <= api.MaxWriter && !bytes.Equal(b, form) || (e == api.OK) != (len(form) <= api.MaxWriter) {
			t.Errorf("a text of %d bytes is written again as %d bytes, %d", n, len(b), e)
		}
	}
}

// P2.2: what was written is read back, with anything behind it, and just that is left.
func TestBackAndForth(t *testing.T) {
	r := source()
	for range 3000 {
		w := pack.NewWriter(api.MaxWriter)
		values := make([]value, r.IntN(30))
		for i := range values {
			values[i] = anyValue(r, r.IntN(kinds))
			values[i].write(w)
		}
		b, e := w.Out()
		if e != api.OK || w.Err() != api.OK {
			t.Fatalf("writing fails: %d", e)
		}
		tail := someBytes(r, r.IntN(4))
		reader := pack.NewReader(append(b, tail...))
		for _, v := range values {
			// Told just enough.
			most := int(v.u)
			if v.kind == aText {
				most = len(v.s)
			}
			if got := read(reader, v.kind, most); got != v || reader.Err() != api.OK {
				t.Fatalf("%+v is read back as %+v, %d", v, got, reader.Err())
			}
		}
		if reader.Left() != len(tail) {
			t.Fatalf("%d bytes are left of %d", reader.Left(), len(tail))
		}
		for _, c := range tail {
			if got := reader.Byte(); got != c {
				t.Fatalf("behind the values stands %x, want %x", got, c)
			}
		}
		if e := reader.End(); e != api.OK {
			t.Fatalf("End: %d", e)
		}
	}
}

// laid writes the values.
func laid(t *testing.T, values ...value) []byte {
	t.Helper()
	w := pack.NewWriter(api.MaxWriter)
	for _, v := range values {
		v.write(w)
	}
	b, e := w.Out()
	if e != api.OK {
		t.Fatalf("%+v: %d", values, e)
	}
	return b
}

// P2.4: among many values of a kind no form begins another's.
func TestNoFormBeginsAnother(t *testing.T) {
	r := source()
	for kind := range kinds {
		values := map[value]int{}
		for _, u := range edgeNumbers() {
			v := value{kind: kind}
			switch kind {
			case aUint:
				v.u = u
			case anInt:
				v.i = int64(u)
			case aText:
				v.s = strings.Repeat("\x00", int(u%300))
			default:
				v = anyValue(r, kind)
			}
			values[v] = 1
		}
		for range 300 {
			values[anyValue(r, kind)] = 1
		}
		forms := [][]byte{}
		for v := range values {
			forms = append(forms, laid(t, v))
		}
		// In byte order a beginning stands right ahead of something that it begins.
		slices.SortFunc(forms, bytes.Compare)
		for i := 1; i < len(forms); i++ {
			if bytes.HasPrefix(forms[i], forms[i-1]) {
				t.Errorf("kind %d: %x begins %x", kind, forms[i-1], forms[i])
			}
		}
	}
}

// P2.4: two lists of values of the same kinds are alike in their bytes up to where they part, and neither begins the other.
func TestNoListBeginsAnother(t *testing.T) {
	r := source()
	for range 5000 {
		a := make([]value, 1+r.IntN(6))
		for i := range a {
			a[i] = anyValue(r, r.IntN(kinds))
		}
		b := slices.Clone(a)
		from := r.IntN(len(a))
		for i := from; i < len(b); i++ {
			b[i] = anyValue(r, a[i].kind)
		}
		x, y := laid(t, a...), laid(t, b...)
		if same := slices.Equal(a, b); same != bytes.Equal(x, y) || !same && (bytes.HasPrefix(x, y) || bytes.HasPrefix(y, x)) {
			t.Fatalf("%+v and %+v are written as %x and %x", a, b, x, y)
		}
		if part := laid(t, a[:from]...); !bytes.HasPrefix(x, part) || !bytes.HasPrefix(y, part) {
			t.Fatalf("%+v and %+v don't both begin with %x", a, b, part)
		}
	}
}

// P2.5: a form has n + 1 bytes just from 128^n on.
func TestLengthsGrow(t *testing.T) {
	from := big.NewInt(1)
	for n := range 10 {
		u := from.Uint64()
		if got := len(laid(t, value{kind: aUint, u: u})); got != n+1 {
			t.Errorf("%d has a form of %d bytes, want %d", u, got, n+1)
		}
		if got := len(laid(t, value{kind: aUint, u: u - 1})); got != max(n, 1) {
			t.Errorf("%d has a form of %d bytes, want %d", u-1, got, max(n, 1))
		}
		from.Mul(from, big.NewInt(128))
	}
	if got := len(laid(t, value{kind: aUint, u: math.MaxUint64})); got != 10 {
		t.Errorf("the greatest number has a form of %d bytes", got)
	}
	r := source()
	for range 20000 {
		a, b := anyNumber(r), anyNumber(r)
		if len(laid(t, value{u: a})) > len(laid(t, value{u: b})) && a <= b {
			t.Errorf("%d has a longer form than %d", a, b)
		}
	}
}

// P2.1: the chapter's examples of lists, and what is refused.
func TestTextsExamples(t *testing.T) {
	for _, c := range []struct {
		l    []string
		form string
	}{
		{nil, "\x00"}, {[]string{}, "\x00"}, {[]string{""}, "\x01\x00"},
		{[]string{"a", "", "bc"}, "\x03\x01a\x00\x02bc"},
		{make([]string, 4096), "\x80\x20" + strings.Repeat("\x00", 4096)},
	} {
		b, e := pack.Texts(c.l)
		if string(b) != c.form || e != api.OK {
			t.Errorf("Texts of %d: %x, %d", len(c.l), b, e)
		}
		if l, e := pack.Untexts([]byte(c.form)); !slices.Equal(l, c.l) || e != api.OK {
			t.Errorf("Untexts(%x) = %q, %d", c.form, l, e)
		}
	}
	for _, c := range []struct {
		l []string
		e api.Errno
	}{
		{make([]string, 4097), api.ErrArg},
		{append(make([]string, 4096), strings.Repeat("x", api.MaxWriter)), api.ErrArg},
		{[]string{strings.Repeat("x", api.MaxWriter-3)}, api.ErrLong},
		{[]string{strings.Repeat("x", 1<<22), "y"}, api.ErrLong},
		{[]string{strings.Repeat("x", api.MaxWriter-4), ""}, api.ErrLong},
	} {
		if b, e := pack.Texts(c.l); b != nil || e != c.e {
			t.Errorf("Texts of %d: %d bytes, %d, want %d", len(c.l), len(b), e, c.e)
		}
	}
	for _, l := range [][]string{{strings.Repeat("x", api.MaxWriter-4)}, {strings.Repeat("x", api.MaxWriter-5), ""}} {
		b, e := pack.Texts(l)
		if len(b) != api.MaxWriter || e != api.OK {
			t.Errorf("the longest list: %d bytes, %d", len(b), e)
		}
		if again, e := pack.Untexts(b); !slices.Equal(again, l) || e != api.OK {
			t.Errorf("the longest list is read back as %d texts, %d", len(again), e)
		}
	}
}

// P2.1: what Untexts refuses.
func TestUntextsRefuses(t *testing.T) {
	for _, c := range []struct {
		b string
		e api.Errno
	}{
		{"", api.ErrShort}, {"\x80", api.ErrShort}, {"\x80\x00", api.ErrForm}, {"\x00\x00", api.ErrTrail},
		{"\x01\x00\x00", api.ErrTrail}, {"\x02\x00", api.ErrShort}, {"\x02\x00\x01", api.ErrShort}, {"\x02\x80\x00\x00", api.ErrForm},
		{"\x81\x20", api.ErrLong}, {"\xff\xff\xff\xff\xff\xff\xff\xff\xff\x01", api.ErrLong}, {"\xff\xff\xff\xff\xff\xff\xff\xff\xff\x02", api.ErrForm},
		{"\x01\x81\x80\x40", api.ErrLong}, {"\x01\x80\x80\x40", api.ErrShort}, {"\x01\x05abcd", api.ErrShort},
		{"\x80\x20" + strings.Repeat("\x00", 4095), api.ErrShort}, {"\x80\x20" + strings.Repeat("\x00", 4097), api.ErrTrail},
		{strings.Repeat("\x00", api.MaxWriter), api.ErrTrail}, {strings.Repeat("\x00", api.MaxWriter+1), api.ErrLong},
		{"\x01" + string(value{kind: aText, s: strings.Repeat("x", api.MaxWriter-3)}.form()), api.ErrLong},
		{strings.Repeat("\xff", api.MaxWriter+1), api.ErrLong},
	} {
		if l, e := pack.Untexts([]byte(c.b)); l != nil || e != c.e {
			t.Errorf("Untexts(%.20x ..) = %d texts, %d, want %d", c.b, len(l), e, c.e)
		}
	}
}

// P2.1, P2.2, P2.3: lists back and forth, and any bytes as lists, against the chapter's words.
func TestUntextsOfAnyBytes(t *testing.T) {
	r := source()
	for range 30000 {
		b := someBytes(r, 1+r.IntN(12))
		b[0] %= 5
		for i := range b {
			if r.IntN(2) == 0 {
				b[i] %= 4
			}
		}
		m, want := &model{b: b}, []string{}
		for range m.read(aCount, 4096).u {
			want = append(want, m.read(aText, api.MaxWriter).s)
		}
		if m.e == api.OK && len(m.b) > 0 {
			m.e = api.ErrTrail
		}
		l, e := pack.Untexts(b)
		if e != m.e || e == api.OK && !slices.Equal(l, want) || e != api.OK && l != nil {
			t.Fatalf("Untexts(%x) = %q, %d, want %q, %d", b, l, e, want, m.e)
		}
		if again, _ := pack.Texts(l); e == api.OK && !bytes.Equal(again, b) {
			t.Fatalf("Texts(Untexts(%x)) = %x", b, again)
		}
	}
}

// roomy gives b with spare room behind it, and the whole of that memory.
func roomy(b []byte) (part, whole []byte) {
	whole = append(bytes.Clone(b), 1, 2, 3, 4, 5, 6, 7, 8)
	return whole[:len(b)], whole
}

// spoil writes over all of a list's memory.
func spoil(b []byte) {
	b = b[:cap(b)]
	for i := range b {
		b[i] ^= 255
	}
}

// P2.6: what is handed in is neither kept nor changed.
func TestNothingIsKept(t *testing.T) {
	b, whole := roomy([]byte("\x03\x01a\x00\x02bc"))
	kept := bytes.Clone(whole)
	r := pack.NewReader(b)
	first := r.Count(9)
	spoil(whole)
	if s := r.Text(9) + "," + r.Text(9) + "," + r.Text(9); first != 3 || s != "a,,bc" || r.End() != api.OK {
		t.Errorf("a reader keeps what it was given: %q, %d", s, r.Err())
	}
	spoil(whole)
	l, _ := pack.Untexts(b)
	if !bytes.Equal(whole, kept) {
		t.Errorf("reading changes what it reads: %x", whole)
	}
	spoil(whole)
	if !slices.Equal(l, []string{"a", "", "bc"}) {
		t.Errorf("Untexts keeps what it was given: %q", l)
	}
	texts := []string{"a", "b", "spare"}
	form, _ := pack.Texts(texts[:2])
	if !slices.Equal(texts, []string{"a", "b", "spare"}) || string(form) != "\x02\x01a\x01b" {
		t.Errorf("Texts changes what it was given: %q", texts)
	}
}

// P2.6: what is answered is new memory, and a writer goes on behind Out as before.
func TestAnswersAreNew(t *testing.T) {
	w := pack.NewWriter(40)
	want := []byte{}
	for i := range byte(40) {
		one, _ := w.Out()
		two, e := w.Out()
		spoil(one)
		if !bytes.Equal(two, want) || e != api.OK {
			t.Errorf("Out shares its answers: %x, %d, want %x", two, e, want)
		}
		w.Byte(i)
		want = append(want, i)
		if !bytes.Equal(two, want[:i]) {
			t.Errorf("writing changes what Out told: %x", two)
		}
		_ = append(two, 99)
		if b, _ := w.Out(); !bytes.Equal(b, want) {
			t.Errorf("appending to what Out told changes the writer: %x", b)
		}
	}
	l := []string{"a", "bc"}
	one, _ := pack.Texts(l)
	two, _ := pack.Texts(l)
	spoil(one)
	if string(two) != "\x02\x01a\x02bc" {
		t.Errorf("Texts shares its answers: %x", two)
	}
	three, _ := pack.Untexts(two)
	four, _ := pack.Untexts(two)
	three[0] = "x"
	_ = append(three[:1], "y")
	if !slices.Equal(four, l) {
		t.Errorf("Untexts shares its answers: %q", four)
	}
}

// P2.1: two writers, and two readers, have nothing in common.
func TestEachIsItsOwn(t *testing.T) {
	a, b := pack.NewWriter(9), pack.NewWriter(9)
	a.Count(-1)
	b.Byte(1)
	if out, e := b.Out(); string(out) != "\x01" || e != api.OK || a.Len() != 0 || a.Err() != api.ErrArg {
		t.Errorf("two writers: %x, %d", out, e)
	}
	data := []byte{2, 3}
	x, y := pack.NewReader(data), pack.NewReader(data)
	x.Bool()
	if y.Byte() != 2 || y.Left() != 1 || y.Err() != api.OK || x.Left() != 2 || x.Err() != api.ErrForm {
		t.Errorf("two readers: %d and %d left, %d and %d", x.Left(), y.Left(), x.Err(), y.Err())
	}
}
