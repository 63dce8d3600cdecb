package quant_test

import (
	"fmt"
	"maps"
	"math/big"
	"math/rand/v2"
	"regexp"
	"slices"
	"strings"
	"testing"

	"bursar/api"
	"bursar/quant"
)

var nameForm = regexp.MustCompile(`\A[a-z0-9]([a-z0-9-]*[a-z0-9])?(\.[a-z0-9]([a-z0-9-]*[a-z0-9])?)*\z`)

// isResource is the chapter's resource name.
func isResource(name string) bool { return len(name) <= 48 && nameForm.MatchString(name) }

func fair(l list) bool {
	return !slices.ContainsFunc(l, func(x api.Amount) bool { return x.Value < 0 || !isResource(x.Name) })
}

// validity is Valid as the chapter tells it.
func validity(l list) api.Errno {
	if len(l) > 16 {
		return api.ErrLong
	}
	rising := true
	for i := range l {
		rising = rising && (i == 0 || l[i-1].Name < l[i].Name)
	}
	if !fair(l) || !rising {
		return api.ErrAmounts
	}
	return api.OK
}

// total has the sum of each name's Values, those of less taken away.
func total(more, less list) map[string]*big.Int {
	sums := map[string]*big.Int{}
	for i, l := range []list{more, less} {
		for _, x := range l {
			if sums[x.Name] == nil {
				sums[x.Name] = new(big.Int)
			}
			v := big.NewInt(x.Value)
			if i == 1 {
				v.Neg(v)
			}
			sums[x.Name].Add(sums[x.Name], v)
		}
	}
	return sums
}

// listed is the list of such sums, or which error comes first.
func listed(sums map[string]*big.Int) (list, api.Errno) {
	var l list
	worst := api.OK
	for _, name := range slices.Sorted(maps.Keys(sums)) {
		switch v := sums[name]; {
		case v.Sign() < 0:
			worst = api.ErrArg
		case !v.IsInt64():
			worst = api.ErrOver
		default:
			l = append(l, api.Amount{Name: name, Value: v.Int64()})
		}
	}
	if worst != api.OK {
		return nil, worst
	}
	if len(l) > 16 {
		return nil, api.ErrLong
	}
	return l, api.OK
}

func normal(l list) (list, api.Errno) {
	if !fair(l) {
		return nil, api.ErrAmounts
	}
	return listed(total(l, nil))
}

func ofBoth(a, b list, sums map[string]*big.Int) (list, api.Errno) {
	if validity(a) != api.OK || validity(b) != api.OK {
		return nil, api.ErrAmounts
	}
	return listed(sums)
}

func plus(a, b list) (list, api.Errno) {
	return ofBoth(a, b, total(append(slices.Clone(a), b...), nil))
}

func minus(a, b list) (list, api.Errno) { return ofBoth(a, b, total(a, b)) }

func same(t *testing.T, what string, got list, errno api.Errno, want list, wantErrno api.Errno) {
	t.Helper()
	if errno != wantErrno || !slices.Equal(got, want) {
		t.Errorf("%s = %v, %d, want %v, %d", what, got, errno, want, wantErrno)
	}
}

// of reads a list as the examples write it: "cpu 1, memory 5".
func of(text string) list {
	var l list
	for piece := range strings.SplitSeq(text, ", ") {
		var x api.Amount
		if n, _ := fmt.Sscanf(piece, "%s %d", &x.Name, &x.Value); n == 2 {
			l = append(l, x)
		}
	}
	return l
}

func numbered(n int) list {
	var l list
	for i := range n {
		l = append(l, api.Amount{Name: fmt.Sprintf("r%02d", i), Value: 1})
	}
	return l
}

// some is a valid list of at most most of a few names.
func some(r *rand.Rand, most int) list {
	values := map[string]int64{}
	for range r.IntN(most + 1) {
		values[fmt.Sprintf("n%d.x-%d", r.IntN(3), r.IntN(9))] = max(0, anyNumber(r))
		values[fmt.Sprintf("n%d", r.IntN(9))] = int64(r.IntN(4))
	}
	var l list
	for _, name := range slices.Sorted(maps.Keys(values))[:min(most, len(values))] {
		l = append(l, api.Amount{Name: name, Value: values[name]})
	}
	return l
}

// odd is a list that is often not valid, by its names, values, order or length.
func odd(r *rand.Rand) list {
	l := some(r, 16)
	for range r.IntN(3) {
		names := []string{"", "A", "a.", ".a", "-a", "a-", "a..b", "a-.b", "a.-b", "a_b", "é", "n1", "n1.x-1", "zz", "\x00", strings.Repeat("z", 48), strings.Repeat("z", 49)}
		x := api.Amount{Name: names[r.IntN(len(names))], Value: anyNumber(r)}
		l = slices.Insert(l, r.IntN(len(l)+1), x)
	}
	if r.IntN(4) == 0 {
		r.Shuffle(len(l), func(i, j int) { l[i], l[j] = l[j], l[i] })
	}
	if r.IntN(16) == 0 {
		l = append(l, numbered(17)...)
	}
	return l
}

// P3.1: the chapter's examples of Valid, and the edges of a resource name.
func TestValid(t *testing.T) {
	for text, want := range map[string]api.Errno{
		"": api.OK, "cpu 1, memory 0": api.OK, "memory 1, cpu 1": api.ErrAmounts, "cpu 1, cpu 1": api.ErrAmounts, "CPU 1": api.ErrAmounts, "a..b 1": api.ErrAmounts, "-a 1": api.ErrAmounts, "cpu -1": api.ErrAmounts, "example.com.gpu 1": api.OK,
		"cpu 9223372036854775807": api.OK, "cpu -9223372036854775808": api.ErrAmounts, "a 1, b 1, a 1": api.ErrAmounts, "a 1, a-b 1, a.b 1, a0 1": api.OK, "a.b 1, a-b 1": api.ErrAmounts,
	} {
		if errno := quant.Valid(of(text)); errno != want {
			t.Errorf("Valid(%s) = %d, want %d", text, errno, want)
		}
	}
	for n, want := range map[int]api.Errno{0: api.OK, 1: api.OK, 16: api.OK, 17: api.ErrLong, 1000: api.ErrLong} {
		if errno := quant.Valid(numbered(n)[:n:n]); errno != want {
			t.Errorf("Valid of %d = %d, want %d", n, errno, want)
		}
	}
	if errno := quant.Valid(append(numbered(16), api.Amount{Name: "", Value: -1})); errno != api.ErrLong {
		t.Errorf("Valid of 17, one of them wrong = %d, want ErrLong", errno)
	}
	long := strings.Repeat("a", 48)
	names := []string{"", "a", "0", "9", "z", "-", "--", ".", "a.", ".a", "a.b", "a..b", "a-", "-a", "a-b", "a--b", "a-.b", "a.-b", "a_b", "a b", "A", "aB", "é", "a\x00", "\xff", "a/b", "`", "{", "/", ":", long, long + "a", long[2:] + ".a", long[1:] + ".a", strings.Repeat("a.", 23) + "aa", strings.Repeat("a.", 24) + "a"}
	for c := range 256 {
		names = append(names, string([]byte{byte(c)}), string([]byte{'a', byte(c)}), string([]byte{byte(c), 'a'}), string([]byte{'a', byte(c), 'a'}))
	}
	for _, name := range names {
		l := list{{Name: name, Value: 1}}
		if errno := quant.Valid(l); errno != validity(l) {
			t.Errorf("Valid of the name %q = %d", name, errno)
		}
		if _, errno := quant.Normal(l); errno != validity(l) {
			t.Errorf("Normal of the name %q = %d", name, errno)
		}
	}
}

// P3.1: the chapter's examples of lists, and which error comes first.
func TestListExamples(t *testing.T) {
	n, errno := quant.Normal(of("memory 2, cpu 1, memory 3"))
	same(t, "Normal", n, errno, of("cpu 1, memory 5"), api.OK)
	n, errno = quant.Plus(of("cpu 1, memory 2"), of("disk 4, memory 3"))
	same(t, "Plus", n, errno, of("cpu 1, disk 4, memory 5"), api.OK)
	n, errno = quant.Minus(of("cpu 1, memory 5"), of("memory 5"))
	same(t, "Minus", n, errno, of("cpu 1, memory 0"), api.OK)
	n, errno = quant.Minus(of("cpu 1"), of("disk 1"))
	same(t, "Minus", n, errno, nil, api.ErrArg)
	n, errno = quant.Minus(of("cpu 1"), of("disk 0"))
	same(t, "Minus", n, errno, of("cpu 1, disk 0"), api.OK)

	great := of("a 9223372036854775807, a 1")
	n, errno = quant.Normal(slices.Concat(numbered(17), great, of("A 1")))
	same(t, "Normal, all three errors", n, errno, nil, api.ErrAmounts)
	n, errno = quant.Normal(append(numbered(17), great...))
	same(t, "Normal, too great and too many", n, errno, nil, api.ErrOver)
	n, errno = quant.Normal(append(great, numbered(17)...))
	same(t, "Normal, too great and too many", n, errno, nil, api.ErrOver)
	n, errno = quant.Normal(numbered(17))
	same(t, "Normal of 17 names", n, errno, nil, api.ErrLong)
	n, errno = quant.Normal(append(great[:1:1], numbered(15)...))
	same(t, "Normal of 16 names", n, errno, append(great[:1:1], numbered(15)...), api.OK)
	n, errno = quant.Normal(slices.Repeat(of("b 3, a 2"), 1000))
	same(t, "Normal of 2000 elements", n, errno, of("a 2000, b 3000"), api.OK)

	n, errno = quant.Plus(great[:1], append(great[1:], numbered(15)...))
	same(t, "Plus, too great", n, errno, nil, api.ErrOver)
	n, errno = quant.Plus(append(great[:1:1], numbered(15)...), append(great[1:], numbered(17)[16]))
	same(t, "Plus, too great and too many", n, errno, nil, api.ErrOver)
	n, errno = quant.Plus(numbered(16), of("cpu 1"))
	same(t, "Plus of 17 names", n, errno, nil, api.ErrLong)
	n, errno = quant.Minus(numbered(16), of("cpu 0"))
	same(t, "Minus of 17 names", n, errno, nil, api.ErrLong)
	n, errno = quant.Minus(numbered(16), of("cpu 1"))
	same(t, "Minus, too little and too many", n, errno, nil, api.ErrArg)
	n, errno = quant.Minus(numbered(16), of("r15 2"))
	same(t, "Minus, too little", n, errno, nil, api.ErrArg)
	for _, wrong := range []list{numbered(17), of("b 1, a 1"), of("a -1"), of("A 1")} {
		for _, other := range []list{nil, numbered(16), wrong, of("zz 9223372036854775807")} {
			n, errno = quant.Plus(wrong, other)
			same(t, "Plus of what isn't valid", n, errno, nil, api.ErrAmounts)
			n, errno = quant.Plus(other, wrong)
			same(t, "Plus of what isn't valid", n, errno, nil, api.ErrAmounts)
			n, errno = quant.Minus(wrong, other)
			same(t, "Minus of what isn't valid", n, errno, nil, api.ErrAmounts)
			n, errno = quant.Minus(other, wrong)
			same(t, "Minus of what isn't valid", n, errno, nil, api.ErrAmounts)
			for _, two := range [][2]list{{wrong, other}, {other, wrong}} {
				if name, errno := quant.Within(two[0], two[1]); name != "" || errno != api.ErrAmounts {
					t.Errorf("Within(%v, %v) = %q, %d", two[0], two[1], name, errno)
				}
			}
		}
	}
}

// P3.1: any lists get what the rules say.
func TestAnyLists(t *testing.T) {
	r := source()
	for range 6000 {
		a, b := odd(r), odd(r)
		if errno := quant.Valid(a); errno != validity(a) {
			t.Errorf("Valid(%v) = %d, want %d", a, errno, validity(a))
		}
		n, errno := quant.Normal(a)
		want, wantErrno := normal(a)
		same(t, fmt.Sprint("Normal", a), n, errno, want, wantErrno)
		n, errno = quant.Plus(a, b)
		want, wantErrno = plus(a, b)
		same(t, fmt.Sprint("Plus", a, b), n, errno, want, wantErrno)
		n, errno = quant.Minus(a, b)
		want, wantErrno = minus(a, b)
		same(t, fmt.Sprint("Minus", a, b), n, errno, want, wantErrno)
	}
}

// P3.1: Of tells the first of a name, in any list.
func TestOf(t *testing.T) {
	l := list{{Name: "b", Value: 1}, {Name: "", Value: 2}, {Name: "b", Value: 3}, {Name: "a", Value: -4}, {Name: "Z", Value: 0}}
	for _, c := range []struct {
		name string
		v    int64
		has  bool
	}{{"b", 1, true}, {"", 2, true}, {"a", -4, true}, {"Z", 0, true}, {"z", 0, false}, {"bb", 0, false}} {
		if v, has := quant.Of(l, c.name); v != c.v || has != c.has {
			t.Errorf("Of(%q) = %d, %v", c.name, v, has)
		}
	}
	if v, has := quant.Of(nil, ""); v != 0 || has {
		t.Errorf("Of nothing = %d, %v", v, has)
	}
}

// P3.1, P3.6: Within tells the first name that is too small, and "" just where Minus isn't refused.
func TestWithin(t *testing.T) {
	for _, c := range []struct{ l, most, want string }{
		{"cpu 3, memory 1", "cpu 2, memory 1", "cpu"}, {"cpu 3", "memory 0", ""}, {"", "cpu 0", ""}, {"cpu 1", "", ""}, {"a 2, b 2", "a 1, b 1", "a"}, {"a 2, b 2", "a 2, b 1", "b"}, {"a 0", "a 0", ""}, {"a 9223372036854775807", "a 9223372036854775806", "a"}, {"b 2", "a 0, b 1, c 0", "b"},
	} {
		if name, errno := quant.Within(of(c.l), of(c.most)); name != c.want || errno != api.OK {
			t.Errorf("Within(%s, %s) = %q, %d, want %q", c.l, c.most, name, errno, c.want)
		}
	}
	r := source()
	for range 6000 {
		l, most := some(r, 16), some(r, 16)
		if r.IntN(2) == 0 { // near one another, so that both outcomes are met
			most = slices.Clone(l)
			for i := range most {
				most[i].Value = max(0, most[i].Value-int64(r.IntN(20)/19))
			}
		}
		var named list
		want := ""
		for _, x := range most {
			i := slices.IndexFunc(l, func(y api.Amount) bool { return y.Name == x.Name })
			if i < 0 {
				continue
			}
			named = append(named, l[i])
			if want == "" && x.Value < l[i].Value {
				want = x.Name
			}
		}
		name, errno := quant.Within(l, most)
		if name != want || errno != api.OK {
			t.Errorf("Within(%v, %v) = %q, %d, want %q", l, most, name, errno, want)
		}
		if _, errno := quant.Minus(most, named); (errno == api.OK) != (name == "") {
			t.Errorf("Within(%v, %v) = %q, but Minus answers %d", l, most, name, errno)
		}
	}
}

// P3.4: Plus doesn't hang on the order of lists, Minus takes it back, Normal doesn't hang on the order and keeps a valid list.
func TestSumsOfLists(t *testing.T) {
	r := source()
	sum := func(lists ...list) (list, api.Errno) {
		var l list
		for _, x := range lists {
			var errno api.Errno
			if l, errno = quant.Plus(l, x); errno != api.OK {
				return nil, errno
			}
		}
		return l, api.OK
	}
	whole := 0
	for range 6000 {
		a, b, c := some(r, 6), some(r, 6), some(r, 6)
		ab, errno := quant.Plus(a, b)
		ba, errno2 := quant.Plus(b, a)
		same(t, fmt.Sprint("Plus", b, a), ba, errno2, ab, errno)
		if errno == api.OK {
			back, errno := quant.Minus(ab, b)
			want, wantErrno := quant.Plus(a, zeros(b))
			same(t, fmt.Sprint("Minus(Plus", a, b, ", b)"), back, errno, want, wantErrno)
		}
		one, errno := sum(a, b, c)
		two, errno2 := sum(c, a, b)
		if errno == api.OK && errno2 == api.OK {
			whole++
			same(t, fmt.Sprint("the sum of", a, b, c), two, errno2, one, errno)
		}
		kept, errno := quant.Normal(a)
		same(t, fmt.Sprint("Normal", a), kept, errno, a, api.OK)
		mixed := slices.Concat(a, b, c, odd(r))
		before, errno := quant.Normal(mixed)
		r.Shuffle(len(mixed), func(i, j int) { mixed[i], mixed[j] = mixed[j], mixed[i] })
		after, errno2 := quant.Normal(mixed)
		same(t, fmt.Sprint("Normal", mixed), after, errno2, before, errno)
	}
	if whole < 1000 {
		t.Errorf("only %d sums of three lists were looked at", whole)
	}
}

func zeros(l list) list {
	l = slices.Clone(l)
	for i := range l {
		l[i].Value = 0
	}
	return l
}

// roomy is l with spare room behind it that is filled.
func roomy(l list) list {
	return append(slices.Clone(l), slices.Repeat(list{{Name: "spare", Value: 7}}, 20)...)
}

// P3.1: what is handed in is neither changed nor kept, spare room too, and answers are new memory.
func TestNothingShared(t *testing.T) {
	calls := map[string]func(a, b list) list{
		"Valid":  func(a, b list) list { quant.Valid(a); return nil },
		"Normal": func(a, b list) list { l, _ := quant.Normal(a); return l },
		"Plus":   func(a, b list) list { l, _ := quant.Plus(a, b); return l },
		"Minus":  func(a, b list) list { l, _ := quant.Minus(a, b); return l },
		"Of":     func(a, b list) list { quant.Of(a, "cpu"); return nil },
		"Within": func(a, b list) list { quant.Within(a, b); return nil },
	}
	first := []list{nil, {}, of("cpu 5"), of("cpu 5, disk 2, memory 9"), of("memory 1, cpu 2, memory 3"), numbered(16)}
	second := []list{nil, {}, of("cpu 5"), of("disk 0, zoo 0"), of("cpu 1, memory 2")}
	for name, call := range calls {
		for _, a := range first {
			for _, b := range second {
				wideA, wideB := roomy(a), roomy(b)
				answer := call(wideA[:len(a)], wideB[:len(b)])
				if !slices.Equal(wideA, roomy(a)) || !slices.Equal(wideB, roomy(b)) {
					t.Errorf("%s(%v, %v) changes what it is given", name, a, b)
				}
				again := slices.Clone(answer)
				clear(wideA)
				clear(wideB)
				if !slices.Equal(answer, again) {
					t.Errorf("%s(%v, %v) answers with what it was given", name, a, b)
				}
				wideA, wideB = roomy(a), roomy(b)
				answer = call(wideA[:len(a)], wideB[:len(b)])
				clear(answer[:cap(answer)])
				if !slices.Equal(wideA, roomy(a)) || !slices.Equal(wideB, roomy(b)) {
					t.Errorf("%s(%v, %v) answers with what it was given", name, a, b)
				}
			}
		}
	}
}
