package quant_test

import (
	"fmt"
	"math"
	"math/big"
	"math/rand/v2"
	"regexp"
	"slices"
	"strconv"
	"strings"
	"testing"

	"bursar/api"
	"bursar/quant"
)

const top = math.MaxInt64

type list = []api.Amount

func source() *rand.Rand { return rand.New(rand.NewPCG(1, 2)) }

// The suffixes as the chapter's section Words tells them: a base and its powers from 1 on.
var bases = []struct {
	base  int64
	names []string
}{{1000, []string{"k", "M", "G", "T", "P"}}, {1024, []string{"Ki", "Mi", "Gi", "Ti", "Pi"}}}

func suffixTexts() []string {
	return append(append([]string{"", "m"}, bases[0].names...), bases[1].names...)
}

// factor is what a suffix multiplies by.
func factor(suffix string) *big.Rat {
	if suffix == "m" {
		return big.NewRat(1, 1000)
	}
	for _, b := range bases {
		if i := slices.Index(b.names, suffix); i >= 0 {
			return new(big.Rat).SetInt(power(b.base, i+1))
		}
	}
	return big.NewRat(1, 1)
}

func power(base int64, n int) *big.Int {
	return new(big.Int).Exp(big.NewInt(base), big.NewInt(int64(n)), nil)
}

var form = regexp.MustCompile(`\A([0-9]+(?:\.[0-9]+)?)(|m|k|M|G|T|P|Ki|Mi|Gi|Ti|Pi)\z`)

// meaning is the exact number of thousandths that a quantity's text means, and whether it is such a text.
func meaning(text string) (*big.Rat, bool) {
	m := form.FindStringSubmatch(text)
	if m == nil || len(strings.ReplaceAll(m[1], ".", "")) > 19 {
		return nil, false
	}
	number, ok := new(big.Rat).SetString(m[1])
	if !ok {
		return nil, false
	}
	number.Mul(number, factor(m[2]))
	return number.Mul(number, big.NewRat(1000, 1)), true
}

// roundedUp is the least whole number that isn't below r, which isn't below 0.
func roundedUp(r *big.Rat) *big.Int {
	up := new(big.Int).Add(r.Num(), r.Denom())
	return up.Sub(up, big.NewInt(1)).Div(up, r.Denom())
}

func fitted(v *big.Int) (int64, api.Errno) {
	if !v.IsInt64() {
		return 0, api.ErrOver
	}
	return v.Int64(), api.OK
}

func parsed(text string) (int64, api.Errno) {
	exact, ok := meaning(text)
	if !ok {
		return 0, api.ErrQuant
	}
	return fitted(roundedUp(exact))
}

// plain is the plain form, step by step as the chapter tells it.
func plain(v int64) string {
	switch {
	case v < 0:
		return ""
	case v%1000 != 0:
		return strconv.FormatInt(v, 10) + "m"
	case v == 0:
		return "0"
	}
	n := big.NewInt(v / 1000)
	var texts [2]string
	texts[0] = n.String()
	for i, b := range bases {
		for j, name := range b.names {
			quotient, rest := new(big.Int).QuoRem(n, power(b.base, j+1), new(big.Int))
			if rest.Sign() == 0 {
				texts[i] = quotient.String() + name
			}
		}
	}
	if texts[1] != "" && len(texts[1]) < len(texts[0]) {
		return texts[1]
	}
	return texts[0]
}

// someValue is a value of any size; often one that powers of 1000 or 1024 divide, or one at an edge.
func someValue(r *rand.Rand) int64 {
	v := r.Int64() >> r.IntN(64)
	switch r.IntN(4) {
	case 0:
		for v > 0 && v < top/1024 && r.IntN(5) > 0 {
			v *= []int64{10, 1000, 1024}[r.IntN(3)]
		}
	case 1:
		return []int64{0, 1, 999, 1000, 1001, top - 1, top, top / 2, top / 1000 * 1000}[r.IntN(9)]
	}
	return v
}

// someText is a quantity's text, or nearly one.
func someText(r *rand.Rand) string {
	digits := func(n int) string {
		b := make([]byte, n)
		for i := range b {
			b[i] = "0012345678999"[r.IntN(13)]
		}
		return string(b)
	}
	text := digits(1 + r.IntN(21))
	if r.IntN(2) == 0 {
		text = digits(r.IntN(13)) + "." + digits(r.IntN(13))
	}
	all := suffixTexts()
	text += all[r.IntN(len(all))]
	if r.IntN(4) == 0 {
		at := r.IntN(len(text) + 1)
		text = text[:at] + []string{"", " ", "-", "+", "i", "K", "e", ".", "\x00", "\xff", "٣", "m", "_"}[r.IntN(13)] + text[min(len(text), at+r.IntN(2)):]
	}
	return text
}

func checkParse(t *testing.T, text string) {
	t.Helper()
	v, errno := quant.Parse(text)
	if want, wantErrno := parsed(text); v != want || errno != wantErrno {
		t.Errorf("Parse(%q) = %d, %d, want %d, %d", text, v, errno, want, wantErrno)
	}
}

// P3.1: the chapter's examples of Parse, every suffix, and the edges of its words.
func TestParseExamples(t *testing.T) {
	for text, want := range map[string]int64{
		"500m": 500, "1.5": 1500, "2Gi": 2147483648000, "1.5Ki": 1536000, "0.0001": 1, "1.0001m": 2, "007": 7000, "0": 0,
		"9223372036854775807m": top, "9223372036854775.807": top, "9.223372036854775807P": top,
		"0000000000000000000": 0, "0.000000000000000000Pi": 0, "0.000000000000000001m": 1, "0.000000000000000001Pi": 2,
		"1": 1000, "1m": 1, "1k": 1e6, "1M": 1e9, "1G": 1e12, "1T": 1e15, "1P": 1e18,
		"1Ki": 1000 << 10, "1Mi": 1000 << 20, "1Gi": 1000 << 30, "1Ti": 1000 << 40, "1Pi": 1000 << 50,
	} {
		if v, errno := quant.Parse(text); v != want || errno != api.OK {
			t.Errorf("Parse(%q) = %d, %d, want %d", text, v, errno, want)
		}
	}
	for _, text := range []string{"9223372036854775808m", "9999999999999999999P", "9999999999999999999Pi", "9999999999999999999m", "9223372036854775.808", "10P", "9Pi", "9.223372036854775808P", "18446744073709552"} {
		if v, errno := quant.Parse(text); v != 0 || errno != api.ErrOver {
			t.Errorf("Parse(%q) = %d, %d, want ErrOver", text, v, errno)
		}
	}
}

// P3.1: what is no quantity's text.
func TestParseRefuses(t *testing.T) {
	for _, text := range []string{"", "m", ".5", "5.", "1.5.2", "-1", "+1", " 1", "1 ", "1K", "1ki", "1e3", "0x1", "12345678901234567890", "1.Ki",
		".", "..", "5.m", ".m", "Ki", "i", "1i", "1mi", "1Kii", "1KiB", "1kk", "1mm", "1E", "1Ei", "1u", "1n", "1 m", "1_000", "1,5", "1\n", "\n1", "1\x00", "\x001", "\xff", "1\xff", "٣", "１",
		"00000000000000000001", "1.0000000000000000000", "0000000000.0000000000", "12345678901234567890P", "inf", "NaN", strings.Repeat("9", 1<<16), strings.Repeat(".", 1<<16), "1" + strings.Repeat("k", 1<<16)} {
		if v, errno := quant.Parse(text); v != 0 || errno != api.ErrQuant {
			t.Errorf("Parse(%.40q) = %d, %d, want ErrQuant", text, v, errno)
		}
	}
}

// P3.1, P3.3: any text is read as the words say, and rounded up to the least value that isn't below it.
func TestParseAnyText(t *testing.T) {
	r := source()
	for range 20000 {
		checkParse(t, someText(r))
	}
	all := suffixTexts()
	for whole := range 30 {
		for part := range 300 {
			text := fmt.Sprintf("%d.%03d%s", whole, part, all[(whole+part)%len(all)])
			checkParse(t, text)
		}
	}
	// Just below, at and just above the greatest value, in every suffix.
	for _, suffix := range all {
		for d := range 19 {
			scale := new(big.Rat).SetInt(power(10, d))
			exact := new(big.Rat).Quo(big.NewRat(top, 1000), factor(suffix))
			digits := roundedUp(exact.Mul(exact, scale))
			for step := int64(-2); step <= 2; step++ {
				text := new(big.Int).Add(digits, big.NewInt(step)).String()
				if len(text) > 19 || strings.HasPrefix(text, "-") {
					continue
				}
				if len(text) <= d {
					text = strings.Repeat("0", d+1-len(text)) + text
				}
				if d > 0 {
					text = text[:len(text)-d] + "." + text[len(text)-d:]
				}
				checkParse(t, text+suffix)
			}
		}
	}
}

// P3.3: rounding is up, by less than one thousandth.
func TestRounding(t *testing.T) {
	r := source()
	for range 20000 {
		text := someText(r)
		v, errno := quant.Parse(text)
		exact, ok := meaning(text)
		if errno != api.OK || !ok {
			continue
		}
		over := new(big.Rat).Sub(new(big.Rat).SetInt64(v), exact)
		if over.Sign() < 0 || over.Cmp(big.NewRat(1, 1)) >= 0 {
			t.Errorf("Parse(%q) = %d is %v above the number", text, v, over)
		}
	}
}

// P3.1: the chapter's examples of Print, and every value as its words tell it.
func TestPrint(t *testing.T) {
	for v, want := range map[int64]string{
		0: "0", 500: "500m", 1500: "1500m", 1000: "1", 1536000: "1536", 1024000: "1Ki", 2048000000: "2048k", 1000000: "1k", 1048576000: "1Mi", top: "9223372036854775807m", -1: "", math.MinInt64: "",
		1: "1m", 999: "999m", 1001: "1001m", 9e18: "9P", 1000 << 50: "1Pi", 8000 << 50: "8Pi", 1024000000: "1024k", 1048576000000: "1000Mi", 9223372036854775000: "9223372036854775", 10240000: "10Ki",
	} {
		if text := quant.Print(v); text != want {
			t.Errorf("Print(%d) = %q, want %q", v, text, want)
		}
	}
	r := source()
	for range 20000 {
		v := someValue(r)
		if text, want := quant.Print(v), plain(v); text != want {
			t.Errorf("Print(%d) = %q, want %q", v, text, want)
		}
	}
}

// P3.2: Print and Parse are each other's way back, and no text is shorter than the plain form.
func TestPrintAndParse(t *testing.T) {
	r := source()
	for range 20000 {
		v := someValue(r)
		text := quant.Print(v)
		if back, errno := quant.Parse(text); back != v || errno != api.OK {
			t.Fatalf("Parse(Print(%d)) = %d, %d", v, back, errno)
		}
		for _, suffix := range suffixTexts() {
			n := new(big.Rat).Quo(big.NewRat(v, 1000), factor(suffix))
			if n.IsInt() && len(n.Num().String()+suffix) < len(text) {
				t.Errorf("Print(%d) = %q, but %v%s is shorter", v, text, n.Num(), suffix)
			}
		}
	}
	for range 20000 {
		text := someText(r)
		v, errno := quant.Parse(text)
		exact, ok := meaning(text)
		if errno != api.OK || !ok || !exact.IsInt() {
			continue
		}
		again := quant.Print(v)
		if meant, ok := meaning(again); !ok || meant.Cmp(exact) != 0 {
			t.Errorf("Print(Parse(%q)) = %q, which means something else", text, again)
		}
		if w, errno := quant.Parse(again); errno != api.OK || quant.Print(w) != again {
			t.Errorf("%q isn't its own plain form", again)
		}
	}
}

// anyNumber is a number of any size and sign, often at an edge.
func anyNumber(r *rand.Rand) int64 {
	switch r.IntN(8) {
	case 0:
		return []int64{math.MinInt64, math.MinInt64 + 1, -1}[r.IntN(3)]
	case 1:
		return []int64{0, 1, 2, top - 2, top - 1, top, 1 << 32, 1<<32 - 1, 3037000499, 3037000500}[r.IntN(10)]
	case 2:
		return -r.Int64() >> r.IntN(63)
	}
	return r.Int64() >> r.IntN(64)
}

// P3.1, P3.4: Add and Sub are exact or refused, and Add doesn't hang on the order.
func TestAddAndSub(t *testing.T) {
	check := func(a, b int64) {
		t.Helper()
		sum, sumErrno := int64(0), api.ErrArg
		rest, restErrno := int64(0), api.ErrArg
		if a >= 0 && b >= 0 {
			sum, sumErrno = fitted(new(big.Int).Add(big.NewInt(a), big.NewInt(b)))
			if a >= b {
				rest, restErrno = a-b, api.OK
			}
		}
		if v, errno := quant.Add(a, b); v != sum || errno != sumErrno {
			t.Errorf("Add(%d, %d) = %d, %d, want %d, %d", a, b, v, errno, sum, sumErrno)
		}
		if v, errno := quant.Add(b, a); v != sum || errno != sumErrno {
			t.Errorf("Add(%d, %d) = %d, %d, want %d, %d", b, a, v, errno, sum, sumErrno)
		}
		if v, errno := quant.Sub(a, b); v != rest || errno != restErrno {
			t.Errorf("Sub(%d, %d) = %d, %d, want %d, %d", a, b, v, errno, rest, restErrno)
		}
	}
	edges := []int64{math.MinInt64, -top, -1, 0, 1, 2, 3, 5, top/2 - 1, top / 2, top/2 + 1, top - 2, top - 1, top}
	for _, a := range edges {
		for _, b := range edges {
			check(a, b)
		}
	}
	r := source()
	for range 20000 {
		a := anyNumber(r)
		check(a, anyNumber(r))
		check(a, top-a)
	}
}

// P3.1, P3.5: Scale is the least whole number whose d-fold isn't below v times n.
func TestScale(t *testing.T) {
	check := func(v, n, d int64) {
		t.Helper()
		want, wantErrno := int64(0), api.ErrArg
		if v >= 0 && n >= 0 && d >= 1 {
			product := new(big.Int).Mul(big.NewInt(v), big.NewInt(n))
			want, wantErrno = fitted(roundedUp(new(big.Rat).SetFrac(product, big.NewInt(d))))
		}
		got, errno := quant.Scale(v, n, d)
		if got != want || errno != wantErrno {
			t.Errorf("Scale(%d, %d, %d) = %d, %d, want %d, %d", v, n, d, got, errno, want, wantErrno)
		}
	}
	for _, c := range [][4]int64{{10, 1, 3, 4}, {top, 2, 2, top}, {top, top, top, top}, {0, top, 1, 0}, {1, 1, top, 1}, {top, 3, 3, top}, {9, 1, 3, 3}} {
		if v, errno := quant.Scale(c[0], c[1], c[2]); v != c[3] || errno != api.OK {
			t.Errorf("Scale(%d, %d, %d) = %d, %d", c[0], c[1], c[2], v, errno)
		}
	}
	// 2^65 - 1 by 2: the quotient has all of 64 bits, and is still to be rounded.
	if v, errno := quant.Scale(145295143558111, 253921, 2); v != 0 || errno != api.ErrOver {
		t.Errorf("Scale of 2^65 - 1 by 2 = %d, %d", v, errno)
	}
	edges := []int64{math.MinInt64, -1, 0, 1, 2, 3, 7, 1 << 32, top / 2, top/2 + 1, top - 1, top}
	for _, v := range edges {
		for _, n := range edges {
			for _, d := range edges {
				check(v, n, d)
			}
		}
	}
	r := source()
	for range 20000 {
		v, n := anyNumber(r), anyNumber(r)
		check(v, n, anyNumber(r))
		if n > 0 {
			check(v, n, max(1, n+int64(r.IntN(5))-2))
		}
	}
}
