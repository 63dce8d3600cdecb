package key_test

import (
	"math"
	"math/rand/v2"
	"regexp"
	"slices"
	"strings"
	"testing"
	"unsafe"

	"bursar/api"
	"bursar/key"
)

// keyOf lays a key byte by byte, as the chapter's words say it, whatever its length.
func keyOf(parts []string) string {
	var k []byte
	for _, part := range parts {
		for _, b := range []byte(part) {
			k = append(k, b)
			if b == 0 {
				k = append(k, 255)
			}
		}
		k = append(k, 0, 1)
	}
	return string(k)
}

// wantMake is what Make answers of any parts.
func wantMake(parts []string) (string, api.Errno) {
	k := keyOf(parts)
	switch {
	case len(parts) < 1 || len(parts) > 8:
		return "", api.ErrArg
	case len(k) > 120:
		return "", api.ErrLong
	}
	return k, api.OK
}

var keyForm = regexp.MustCompile(`(?s)\A(?:(?:[^\x00]|\x00\xff)*\x00\x01){1,8}\z`)

// isKey asks of the bytes as letters of the same numbers, as regexps go by letters.
func isKey(s string) bool {
	letters := make([]rune, len(s))
	for i := range len(s) {
		letters[i] = rune(s[i])
	}
	return len(s) <= 120 && keyForm.MatchString(string(letters))
}

// wantCompare is the order of lists as the chapter's words say it.
func wantCompare(a, b []string) int {
	for i := 0; i < len(a) && i < len(b); i++ {
		if a[i] != b[i] {
			return map[bool]int{true: -1, false: 1}[a[i] < b[i]]
		}
	}
	switch {
	case len(a) < len(b):
		return -1
	case len(a) > len(b):
		return 1
	}
	return 0
}

func begins(beginning, of []string) bool {
	return len(beginning) <= len(of) && slices.Equal(beginning, of[:len(beginning)])
}

// textsOf gives all texts of up to most of these letters.
func textsOf(letters string, most int) []string {
	all := []string{""}
	for from := 0; most > 0; most-- {
		to := len(all)
		for _, s := range all[from:to] {
			for i := range len(letters) {
				all = append(all, s+letters[i:i+1])
			}
		}
		from = to
	}
	return all
}

// listsOf gives all lists of up to most of these texts, the empty one first.
func listsOf(texts []string, most int) [][]string {
	all := [][]string{nil}
	for from := 0; most > 0; most-- {
		to := len(all)
		for _, l := range all[from:to] {
			for _, s := range texts {
				all = append(all, append(slices.Clone(l), s))
			}
		}
		from = to
	}
	return all
}

// fewLists are lists with the bytes that keys are made of, in all places.
func fewLists() [][]string {
	lists := listsOf(textsOf("\x00\x01a\xff", 2), 1)
	lists = append(lists, listsOf(textsOf("\x00\x01\xff", 1), 3)...)
	return append(lists, listsOf([]string{"", "a", "a\x00", "\x00a", "ab", "\x01\x00", "\x00\x01", "\x00\xff"}, 2)...)
}

func randomText(random *rand.Rand, most int) string {
	s := make([]byte, random.IntN(most+1))
	for i := range s {
		s[i] = "\x00\x00\x01\x02abz\x7f\x80\xfe\xff\xff"[random.IntN(12)]
		if random.IntN(8) == 0 {
			s[i] = byte(random.IntN(256))
		}
	}
	return string(s)
}

// randomList is around the limits of parts and of bytes.
func randomList(random *rand.Rand) []string {
	l := make([]string, random.IntN(11))
	most := []int{1, 3, 12, 40, 125}[random.IntN(5)]
	for i := range l {
		l[i] = randomText(random, most)
	}
	return l
}

func checkMake(t *testing.T, parts []string) api.Errno {
	t.Helper()
	want, wantErrno := wantMake(parts)
	if k, e := key.Make(parts...); k != want || e != wantErrno {
		t.Fatalf("Make(%q) = %q, %d, want %q, %d", parts, k, e, want, wantErrno)
	}
	return wantErrno
}

func checkSplit(t *testing.T, s string) bool {
	t.Helper()
	parts, e := key.Split(s)
	if !isKey(s) {
		if parts != nil || e != api.ErrBad {
			t.Fatalf("Split(%q) = %q, %d, want ErrBad", s, parts, e)
		}
		return false
	}
	if e != api.OK || len(parts) < 1 || len(parts) > 8 || keyOf(parts) != s {
		t.Fatalf("Split(%q) = %q, %d", s, parts, e)
	}
	return true
}

func repeated(s string, n int) []string { return slices.Repeat([]string{s}, n) }

// P5.1: Make, the examples and edges.
func TestMakeExamples(t *testing.T) {
	for _, c := range []struct {
		parts []string
		key   string
		errno api.Errno
	}{
		{[]string{"a"}, "a\x00\x01", api.OK},
		{[]string{"a", "b"}, "a\x00\x01b\x00\x01", api.OK},
		{[]string{""}, "\x00\x01", api.OK},
		{[]string{"a\x00"}, "a\x00\xff\x00\x01", api.OK},
		{[]string{"\x00\x01"}, "\x00\xff\x01\x00\x01", api.OK},
		{[]string{"\x00\xff"}, "\x00\xff\xff\x00\x01", api.OK},
		{repeated("", 8), strings.Repeat("\x00\x01", 8), api.OK},
		{repeated(strings.Repeat("x", 13), 8), strings.Repeat(strings.Repeat("x", 13)+"\x00\x01", 8), api.OK},
		{[]string{strings.Repeat("x", 118)}, strings.Repeat("x", 118) + "\x00\x01", api.OK},
		{[]string{strings.Repeat("\x00", 59)}, strings.Repeat("\x00\xff", 59) + "\x00\x01", api.OK},
		{nil, "", api.ErrArg},
		{[]string{}, "", api.ErrArg},
		{repeated("", 9), "", api.ErrArg},
		{repeated(strings.Repeat("x", 119), 9), "", api.ErrArg},
		{[]string{strings.Repeat("x", 119)}, "", api.ErrLong},
		{[]string{strings.Repeat("\x00", 59) + "x"}, "", api.ErrLong},
		{append(repeated(strings.Repeat("x", 13), 7), strings.Repeat("x", 14)), "", api.ErrLong},
		{[]string{"x", strings.Repeat("\x00", 1<<20)}, "", api.ErrLong},
		{repeated("x", 1<<16), "", api.ErrArg},
	} {
		if k, e := key.Make(c.parts...); k != c.key || e != c.errno {
			t.Errorf("Make(%.200q) = %q, %d, want %q, %d", c.parts, k, e, c.key, c.errno)
		}
	}
}

// P5.1, P5.2: Make at all lists, and back by Split.
func TestMakeAndBack(t *testing.T) {
	random := rand.New(rand.NewPCG(1, 2))
	lists := fewLists()
	for range 20000 {
		lists = append(lists, randomList(random))
	}
	seen := map[api.Errno]int{}
	for _, parts := range lists {
		errno := checkMake(t, parts)
		seen[errno]++
		if errno != api.OK {
			continue
		}
		k, _ := key.Make(parts...)
		if back, e := key.Split(k); e != api.OK || !slices.Equal(back, parts) {
			t.Fatalf("Split of the key of %q = %q, %d", parts, back, e)
		}
	}
	for _, errno := range []api.Errno{api.OK, api.ErrArg, api.ErrLong} {
		if seen[errno] < 100 {
			t.Errorf("%d lists with answer %d", seen[errno], errno)
		}
	}
}

// P5.1: Split, the examples and edges.
func TestSplitExamples(t *testing.T) {
	for s, want := range map[string][]string{
		"a\x00\x01":                                 {"a"},
		"a\x00\x01b\x00\x01":                        {"a", "b"},
		"\x00\x01":                                  {""},
		"a\x00\xff\x00\x01":                         {"a\x00"},
		"\x01\x00\x01":                              {"\x01"},
		"\xff\x00\xff\xff\x00\x01":                  {"\xff\x00\xff"},
		"\x00\xff\x01\x00\x01":                      {"\x00\x01"},
		strings.Repeat("\x00\x01", 8):               repeated("", 8),
		strings.Repeat("x", 118) + "\x00\x01":       {strings.Repeat("x", 118)},
		strings.Repeat("\x00\xff", 59) + "\x00\x01": {strings.Repeat("\x00", 59)},
	} {
		if parts, e := key.Split(s); e != api.OK || !slices.Equal(parts, want) {
			t.Errorf("Split(%q) = %q, %d, want %q", s, parts, e, want)
		}
	}
	for _, s := range []string{
		"", "a", "a\x00", "a\x00\x02", "a\x00\x01b", "a\x00\xff", "\x00", "\x01", "\x00\x00\x01", "\x00\x02\x00\x01",
		"a\x00\x00\xff\x00\x01", "a\x00\x01\x00", "a\x00\x01\x01", "a\x00\xfe\x00\x01", "a\x00b\x00\x01", "\x00\x01\x00\xff",
		strings.Repeat("\x00\x01", 9), strings.Repeat("\x00\x01", 60), strings.Repeat("x", 119) + "\x00\x01", strings.Repeat("x", 120),
		strings.Repeat("\x00\xff", 59) + "x\x00\x01", strings.Repeat("x", 1<<20), strings.Repeat("\x00\x01", 1<<20),
	} {
		if parts, e := key.Split(s); e != api.ErrBad || parts != nil {
			t.Errorf("Split(%.200q) = %q, %d", s, parts, e)
		}
	}
}

// P5.1, P5.2: Split at all texts: just the keys are taken, and what is taken gives the key again.
func TestSplitAny(t *testing.T) {
	taken, refused := 0, 0
	count := func(s string) {
		if checkSplit(t, s) {
			taken++
			parts, _ := key.Split(s)
			if k, e := key.Make(parts...); e != api.OK || k != s {
				t.Fatalf("Make(%q) = %q, %d, of Split(%q)", parts, k, e, s)
			}
		} else {
			refused++
		}
	}
	for _, s := range textsOf("\x00\x01\x02a\xff", 6) {
		count(s)
	}
	random := rand.New(rand.NewPCG(3, 4))
	pieces := []string{"\x00\x01", "\x00\xff", "\x00\x01", "a", "bc", "\xff", "\x01", "é", strings.Repeat("x", 30)}
	for range 20000 {
		var s strings.Builder
		for range random.IntN(20) {
			s.WriteString(pieces[random.IntN(len(pieces))])
		}
		whole := s.String() + "\x00\x01"
		count(whole)
		spoilt := []byte(whole)
		spoilt[random.IntN(len(spoilt))] = byte(random.IntN(256))
		count(string(spoilt))
		count(whole[:random.IntN(len(whole))])
	}
	if taken < 1000 || refused < 1000 {
		t.Errorf("%d texts taken, %d refused", taken, refused)
	}
}

// P5.3, P5.1: keys stand as their tuples do, and Compare tells that order of any lists.
func TestOrder(t *testing.T) {
	random := rand.New(rand.NewPCG(5, 6))
	check := func(a, b []string) {
		want := wantCompare(a, b)
		if n := key.Compare(a, b); n != want {
			t.Fatalf("Compare(%q, %q) = %d, want %d", a, b, n, want)
		}
		ka, ea := key.Make(a...)
		kb, eb := key.Make(b...)
		if ea == api.OK && eb == api.OK && strings.Compare(ka, kb) != want {
			t.Fatalf("the keys of %q and %q don't stand in their order", a, b)
		}
	}
	lists := fewLists()
	for _, a := range lists {
		for _, b := range lists {
			check(a, b)
		}
	}
	for range 20000 {
		a, b := randomList(random), randomList(random)
		n := random.IntN(min(len(a), len(b)) + 1)
		copy(b, a[:n])
		check(a, b)
		check(a, a[:n])
		check(slices.Clone(a), a)
	}
}

func TestCompareExamples(t *testing.T) {
	long := strings.Repeat("x", 1000)
	for _, c := range []struct {
		a, b []string
		want int
	}{
		{[]string{"a"}, []string{"a", ""}, -1},
		{[]string{"ab"}, []string{"a", "z"}, 1},
		{nil, nil, 0},
		{nil, []string{}, 0},
		{nil, []string{""}, -1},
		{[]string{"\x80"}, []string{"\x7f"}, 1},
		{repeated(long, 20), repeated(long, 21), -1},
		{repeated(long, 20), repeated(long, 20), 0},
		{repeated(long+"a", 20), append(repeated(long+"a", 19), long), 1},
	} {
		if n, m := key.Compare(c.a, c.b), key.Compare(c.b, c.a); n != c.want || m != -c.want {
			t.Errorf("Compare(%.100q, %.100q) = %d, and %d, want %d", c.a, c.b, n, m, c.want)
		}
	}
}

// P5.1: Range, the examples and wrong parts.
func TestRangeExamples(t *testing.T) {
	for _, c := range []struct {
		parts    []string
		from, to string
		errno    api.Errno
	}{
		{[]string{"a"}, "a\x00\x01", "a\x00\x02", api.OK},
		{[]string{""}, "\x00\x01", "\x00\x02", api.OK},
		{[]string{"", ""}, "\x00\x01\x00\x01", "\x00\x01\x00\x02", api.OK},
		{[]string{"a", "\x00\x01"}, "a\x00\x01\x00\xff\x01\x00\x01", "a\x00\x01\x00\xff\x01\x00\x02", api.OK},
		{[]string{strings.Repeat("x", 118)}, strings.Repeat("x", 118) + "\x00\x01", strings.Repeat("x", 118) + "\x00\x02", api.OK},
		{nil, "", "", api.ErrArg},
		{repeated("", 9), "", "", api.ErrArg},
		{repeated(strings.Repeat("x", 119), 9), "", "", api.ErrArg},
		{[]string{strings.Repeat("x", 119)}, "", "", api.ErrLong},
	} {
		if from, to, e := key.Range(c.parts...); from != c.from || to != c.to || e != c.errno {
			t.Errorf("Range(%q) = %q, %q, %d", c.parts, from, to, e)
		}
	}
	from, to, _ := key.Range("a")
	for k, in := range map[string]bool{"a\x00\x01\x00\x01": true, "a\x00\x01": true, "a\x00\xff\x00\x01": false, "ab\x00\x01": false} {
		if (from <= k && k < to) != in {
			t.Errorf("%q: in the range? %v", k, !in)
		}
	}
}

// P5.4: a key lies in a range just if its tuple begins with the parts; ranges of which neither begins the other share nothing.
func TestRanges(t *testing.T) {
	random := rand.New(rand.NewPCG(7, 8))
	inside, apart := 0, 0
	check := func(parts, tuple []string) {
		from, to, e := key.Range(parts...)
		k, wantErrno := key.Make(parts...)
		if e != wantErrno || from != k || (e != api.OK && to != "") {
			t.Fatalf("Range(%q) = %q, %q, %d", parts, from, to, e)
		}
		otherFrom, otherTo, otherErrno := key.Range(tuple...)
		if e != api.OK || otherErrno != api.OK {
			return
		}
		if to != from[:len(from)-1]+"\x02" {
			t.Fatalf("Range(%q) ends at %q", parts, to)
		}
		within := from <= otherFrom && otherFrom < to
		if within != begins(parts, tuple) {
			t.Fatalf("is the key of %q in the range of %q? %v", tuple, parts, within)
		}
		if within {
			inside++
		} else if !begins(tuple, parts) {
			apart++
			if from < otherTo && otherFrom < to {
				t.Fatalf("the ranges of %q and %q share something", parts, tuple)
			}
		}
	}
	lists := fewLists()
	for _, a := range lists {
		for _, b := range lists {
			check(a, b)
		}
	}
	for range 20000 {
		a, b := randomList(random), randomList(random)
		n := random.IntN(min(len(a), len(b)) + 1)
		copy(b, a[:n])
		check(a[:n], b)
		check(a, b)
	}
	if inside < 1000 || apart < 1000 {
		t.Errorf("%d keys in ranges, %d ranges apart", inside, apart)
	}
}

// leastAbove is the least text of so many bytes above a, if there is one: a with bytes 0 behind it, or the next number
// of so many digits in base 256.
func leastAbove(a string, n int) (string, bool) {
	if len(a) < n {
		return a + strings.Repeat("\x00", n-len(a)), true
	}
	s := []byte(a[:n])
	for i := n - 1; i >= 0; i-- {
		s[i]++
		if s[i] != 0 {
			return string(s), true
		}
	}
	return "", false
}

func wantBetween(a, b string) (string, api.Errno) {
	for n := 0; a < b && n <= len(b); n++ {
		if s, there := leastAbove(a, n); there && s <= b {
			return s, api.OK
		}
	}
	return "", api.ErrArg
}

// P5.1: Between, the examples and wrong texts.
func TestBetweenExamples(t *testing.T) {
	long := strings.Repeat("\xff", 1<<20)
	for _, c := range []struct {
		a, b, want string
		errno      api.Errno
	}{
		{"abc", "abd", "abd", api.OK},
		{"a", "c", "b", api.OK},
		{"a", "ab", "a\x00", api.OK},
		{"az", "c", "b", api.OK},
		{"", "x", "\x00", api.OK},
		{"a\xff", "b", "b", api.OK},
		{"", "\x00", "\x00", api.OK},
		{"a", "a\x00", "a\x00", api.OK},
		{"\x7f", "\xff", "\x80", api.OK},
		{"\xfe\xff", "\xff", "\xff", api.OK},
		{"\x00", "\x01\x00", "\x01", api.OK},
		{long, long + "x", long + "\x00", api.OK},
		{long + "a", long + "c", long + "b", api.OK},
		{"x", "x", "", api.ErrArg},
		{"", "", "", api.ErrArg},
		{"b", "a", "", api.ErrArg},
		{"ab", "a", "", api.ErrArg},
		{"a", "", "", api.ErrArg},
		{"\x80", "\x7f", "", api.ErrArg},
		{long, long, "", api.ErrArg},
	} {
		if s, e := key.Between(c.a, c.b); s != c.want || e != c.errno {
			t.Errorf("Between(%.20q, %.20q) = %.20q, %d, want %.20q, %d", c.a, c.b, s, e, c.want, c.errno)
		}
	}
}

// P5.5, P5.1: nothing shorter lies between, and nothing of the length that is less.
func TestBetweenLeast(t *testing.T) {
	random := rand.New(rand.NewPCG(9, 10))
	found, refused := 0, 0
	check := func(a, b string) {
		want, wantErrno := wantBetween(a, b)
		if s, e := key.Between(a, b); s != want || e != wantErrno {
			t.Fatalf("Between(%q, %q) = %q, %d, want %q, %d", a, b, s, e, want, wantErrno)
		}
		if wantErrno == api.OK {
			found++
		} else {
			refused++
		}
	}
	texts := textsOf("\x00\x01a\xfe\xff", 3)
	for _, a := range texts {
		for _, b := range texts {
			check(a, b)
		}
	}
	for range 50000 {
		beginning := randomText(random, 6)
		check(beginning+randomText(random, 6), beginning+randomText(random, 6))
	}
	if found < 1000 || refused < 1000 {
		t.Errorf("%d texts found, %d pairs refused", found, refused)
	}
}

// P5.5 once more, by asking all texts of up to two bytes.
func TestBetweenAsksAll(t *testing.T) {
	all := []string{""}
	for i := range 256 {
		all = append(all, string([]byte{byte(i)}))
	}
	for i := range 256 * 256 {
		all = append(all, string([]byte{byte(i >> 8), byte(i)}))
	}
	few := textsOf("\x00\x01\x7f\x80\xff", 2)
	for _, a := range few {
		for _, b := range few {
			at := slices.IndexFunc(all, func(s string) bool { return a < s && s <= b })
			s, e := key.Between(a, b)
			if (e == api.OK) != (at >= 0) || at >= 0 && s != all[at] {
				t.Fatalf("Between(%q, %q) = %q, %d", a, b, s, e)
			}
		}
	}
}

// numbers are ordinary ones and those around each byte's edge.
func numbers() []int64 {
	all := []int64{0, 1, 2, 127, 128, 255, 256, 257, 258, 1000000, math.MaxInt64 - 1, math.MaxInt64}
	for shift := range 63 {
		all = append(all, 1<<shift-1, 1<<shift, 1<<shift+1)
	}
	random := rand.New(rand.NewPCG(11, 12))
	for range 300 {
		all = append(all, random.Int64()>>random.IntN(63))
	}
	return all
}

// P5.1: Number and Unnumber, the examples, the edges and wrong inputs.
func TestNumbers(t *testing.T) {
	for n, want := range map[int64]string{
		0:                  strings.Repeat("\x00", 8),
		258:                "\x00\x00\x00\x00\x00\x00\x01\x02",
		0x0102030405060708: "\x01\x02\x03\x04\x05\x06\x07\x08",
		math.MaxInt64:      "\x7f" + strings.Repeat("\xff", 7),
	} {
		if s, e := key.Number(n); e != api.OK || s != want {
			t.Errorf("Number(%d) = %q, %d", n, s, e)
		}
	}
	for _, n := range numbers() {
		s, e := key.Number(n)
		back, f := key.Unnumber(s)
		if e != api.OK || f != api.OK || back != n || len(s) != 8 {
			t.Errorf("Number(%d) = %q, %d; back: %d, %d", n, s, e, back, f)
		}
	}
	for _, n := range []int64{-1, -2, -256, math.MinInt64, math.MinInt64 + 1} {
		if s, e := key.Number(n); s != "" || e != api.ErrArg {
			t.Errorf("Number(%d) = %q, %d", n, s, e)
		}
	}
	for _, s := range []string{"", "1", "1234567", "123456789", "\x80" + strings.Repeat("\x00", 7), strings.Repeat("\xff", 8), "\x00\x00\x00\x00\x00\x00\x00", strings.Repeat("\x00", 9), strings.Repeat("1", 1<<20)} {
		if n, e := key.Unnumber(s); n != 0 || e != api.ErrBad {
			t.Errorf("Unnumber(%.20q) = %d, %d", s, n, e)
		}
	}
	for first := range 256 {
		s := string([]byte{byte(first)}) + "\x01\x02\x03\x04\x05\x06\x80"
		n, e := key.Unnumber(s)
		want, wantErrno := int64(first)<<56|0x01020304050680, api.OK
		if first > 127 {
			want, wantErrno = 0, api.ErrBad
		}
		if n != want || e != wantErrno {
			t.Errorf("Unnumber(%q) = %d, %d, want %d, %d", s, n, e, want, wantErrno)
		}
	}
}

// P5.6: numbers' texts stand in the numbers' order, and as parts too.
func TestNumbersOrder(t *testing.T) {
	all := numbers()
	for _, n := range all {
		for _, m := range all {
			want := 0
			if n != m {
				want = map[bool]int{true: -1, false: 1}[n < m]
			}
			a, _ := key.Number(n)
			b, _ := key.Number(m)
			ka, ea := key.Make("x", a, "y")
			kb, eb := key.Make("x", b, "y")
			if ea != api.OK || eb != api.OK {
				t.Fatalf("the keys of %d and %d: %d, %d", n, m, ea, eb)
			}
			if strings.Compare(a, b) != want || strings.Compare(ka, kb) != want {
				t.Fatalf("the texts or keys of %d and %d don't stand in their order", n, m)
			}
		}
	}
}

// P5.7: lists that come in stay as they are, with their spare room.
func TestHandedInStays(t *testing.T) {
	room := []string{"a\x00", "b", "", "spare", "room"}
	before := slices.Clone(room)
	key.Make(room[:3]...)
	key.Make(room[:0]...)
	key.Range(room[:3]...)
	key.Compare(room[:3], room[:2])
	key.Compare(room[:2], room[:3])
	if !slices.Equal(room, before) {
		t.Errorf("changed: %q", room)
	}
	k, _ := key.Make(room[:3]...)
	from, to, _ := key.Range(room[:3]...)
	copy(room, []string{"x", "y", "z"})
	if want := keyOf(before[:3]); k != want || from != want || to != want[:len(want)-1]+"\x02" {
		t.Errorf("the key went with the list: %q, %q, %q", k, from, to)
	}
}

// inMemoryOf tells whether a text lies in another's bytes.
func inMemoryOf(part, whole string) bool {
	at, from := uintptr(unsafe.Pointer(unsafe.StringData(part))), uintptr(unsafe.Pointer(unsafe.StringData(whole)))
	return part != "" && at >= from && at < from+uintptr(len(whole))
}

// P5.7: what Split answers is new memory.
func TestSplitIsNew(t *testing.T) {
	k, _ := key.Make("ab", "c\x00d", "", "efg")
	want := []string{"ab", "c\x00d", "", "efg"}
	one, _ := key.Split(k)
	two, _ := key.Split(k)
	for _, part := range one {
		if inMemoryOf(part, k) {
			t.Errorf("%q lies in the key", part)
		}
	}
	for i := range one {
		one[i] = "changed"
	}
	one = append(one[:2], "appended")
	three, _ := key.Split(k)
	if !slices.Equal(two, want) || !slices.Equal(three, want) {
		t.Errorf("Split behind a change of an answer: %q, %q", two, three)
	}
}
