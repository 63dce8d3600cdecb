package label_test

import (
	"fmt"
	"math/rand/v2"
	"regexp"
	"slices"
	"strings"
	"testing"

	"bursar/api"
	"bursar/label"
)

// termForms are the chapter's texts of a term, each with the How that it says.
var termForms = []struct {
	form *regexp.Regexp
	how  int
}{
	{regexp.MustCompile(`\A(` + nameForm + `)=((?:` + nameForm + `)?)\z`), api.Is},
	{regexp.MustCompile(`\A(` + nameForm + `)!=((?:` + nameForm + `)?)\z`), api.IsNot},
	{regexp.MustCompile(`\A(` + nameForm + `) in \((` + nameForm + `(?: ` + nameForm + `){1,7})\)\z`), api.Is},
	{regexp.MustCompile(`\A(` + nameForm + `) notin \((` + nameForm + `(?: ` + nameForm + `){1,7})\)\z`), api.IsNot},
	{regexp.MustCompile(`\A(` + nameForm + `)\z`), api.Has},
	{regexp.MustCompile(`\A!(` + nameForm + `)\z`), api.HasNot},
}

func termOf(text string) (api.Term, bool) {
	for _, f := range termForms {
		if m := f.form.FindStringSubmatch(text); m != nil {
			term := api.Term{Key: m[1], How: f.how}
			if len(m) > 2 {
				term.Values = strings.Split(m[2], " ")
			}
			return term, !repeats(term.Values)
		}
	}
	return api.Term{}, false
}

func repeats(values []string) bool {
	for i, x := range values {
		if slices.Contains(values[:i], x) {
			return true
		}
	}
	return false
}

// termsOf is Parse as the chapter's words tell it.
func termsOf(text string) ([]api.Term, api.Errno) {
	if text == "" {
		return nil, api.OK
	}
	pieces := strings.Split(text, ",")
	var terms []api.Term
	for _, piece := range pieces {
		term, ok := termOf(piece)
		if !ok || len(pieces) > 8 {
			return nil, api.ErrTerm
		}
		terms = append(terms, term)
	}
	return terms, api.OK
}

// areTerms is whether terms are valid, as the chapter tells it.
func areTerms(terms []api.Term) bool {
	for _, x := range terms {
		n := len(x.Values)
		ok := isName(x.Key)
		switch x.How {
		case api.Is, api.IsNot:
			ok = ok && n >= 1 && n <= 8 && !repeats(x.Values)
			for _, v := range x.Values {
				ok = ok && (isName(v) || n == 1 && v == "")
			}
		case api.Has, api.HasNot:
			ok = ok && n == 0
		default:
			ok = false
		}
		if !ok {
			return false
		}
	}
	return len(terms) <= 8
}

func sameTerms(a, b []api.Term) bool {
	return slices.EqualFunc(a, b, func(x, y api.Term) bool {
		return x.Key == y.Key && x.How == y.How && slices.Equal(x.Values, y.Values)
	})
}

func checkParse(t *testing.T, text string, want []api.Term, wantErrno api.Errno) {
	t.Helper()
	if got, errno := label.Parse(text); !sameTerms(got, want) || errno != wantErrno {
		t.Errorf("Parse(%.80q) = %v, %d, want %v, %d", text, got, errno, want, wantErrno)
	}
}

func term(key string, how int, values ...string) api.Term {
	return api.Term{Key: key, How: how, Values: values}
}

// P4.1: the chapter's examples of Parse, and its limits.
func TestParse(t *testing.T) {
	checkParse(t, "", nil, api.OK)
	checkParse(t, "a=b,c!=,d in (x y),e notin (z w),f,!g", []api.Term{
		term("a", api.Is, "b"), term("c", api.IsNot, ""), term("d", api.Is, "x", "y"),
		term("e", api.IsNot, "z", "w"), term("f", api.Has), term("g", api.HasNot),
	}, api.OK)
	checkParse(t, "in in (in notin)", []api.Term{term("in", api.Is, "in", "notin")}, api.OK)
	checkParse(t, "notin notin (notin in)", []api.Term{term("notin", api.IsNot, "notin", "in")}, api.OK)
	checkParse(t, "a in (y x)", []api.Term{term("a", api.Is, "y", "x")}, api.OK)
	checkParse(t, "a=,a!=b", []api.Term{term("a", api.Is, ""), term("a", api.IsNot, "b")}, api.OK)
	checkParse(t, "a in (1 2 3 4 5 6 7 8)", []api.Term{term("a", api.Is, "1", "2", "3", "4", "5", "6", "7", "8")}, api.OK)
	checkParse(t, "a,a,a,a,a,a,a,a", slices.Repeat([]api.Term{term("a", api.Has)}, 8), api.OK)
	x := strings.Repeat("x", 32)
	checkParse(t, x+"="+x, []api.Term{term(x, api.Is, x)}, api.OK)
}

// P4.1: what is no selector's text.
func TestParseRefuses(t *testing.T) {
	x := strings.Repeat("x", 33)
	for _, text := range []string{
		"a=b,", ",", " a", "a = b", "a in (x)", "a in (x x)", "a in (x  y)", "a in (x y) ", "a in ()", "a in(x y)", "a==b", "a!b", "!", "!a=b", "a=b=c", "A",
		"a,a,a,a,a,a,a,a,a", "a in (1 2 3 4 5 6 7 8 9)", "a notin (1 2 3 4 5 6 7 8 9)",
		",a", "a,,b", "a, b", "a ,b", " ", "a ", "=", "=b", "!=", "!=b", "a!=b!=c", "a!=!b", "!!a", "a!", "a=!b", "a!=b=c", "a=b!=c",
		"a notin (x)", "a notin (x x)", "a notin ()", "a notin( x y)", "a in ( x y)", "a in (x y )", "a in ( )", "a in (x y", "a in x y", "a in x y)", "a  in (x y)", "a in  (x y)", "in (x y)", " in (x y)", "(x y)", "a (x y)", "a of (x y)", "a IN (x y)", "a in (x y))", "a in ((x y)", "a in (x,y)", "a in (x y z x)", "!a in (x y)", "a in (x in (y z)", "a notin (x in (y z)", "a in (b notin (c d)", "a in (x Y)", "a in (x =)",
		"a=B", "a=b c", "a=b-", "a!=-b", "a=" + x, x, x + "=a", "!" + x, "a\n", "\x00", "\xff", "é", "a=é",
		strings.Repeat(",", 1<<20), strings.Repeat("a,", 1<<20) + "a", "a in (" + strings.Repeat("b ", 1<<20) + "c)", strings.Repeat("!", 1<<20), strings.Repeat("a", 1<<20), strings.Repeat(" in (", 1<<18),
	} {
		checkParse(t, text, nil, api.ErrTerm)
	}
}

// selectorWords are what a random selector's text is put together of.
var selectorWords = strings.Split("a|a|b|c|in|notin|0-9|-|A|=|=|!=|!=|!|,|,| in (| in (| notin (| notin (| | |)|)|\xff", "|")

// randomText gives a text that is often a selector's, and else often nearly one.
func randomText(random *rand.Rand) string {
	var pieces []string
	if random.IntN(3) == 0 {
		for range random.IntN(9) {
			pieces = append(pieces, selectorWords[random.IntN(len(selectorWords))])
		}
		return strings.Join(pieces, "")
	}
	text := textOf(randomTerms(random))
	for range random.IntN(3) {
		at := random.IntN(len(text) + 1)
		end := min(len(text), at+random.IntN(3))
		text = text[:at] + selectorWords[random.IntN(len(selectorWords))] + text[end:]
	}
	return text
}

// randomTerms gives valid terms, but now and then.
func randomTerms(random *rand.Rand) []api.Term {
	pool := []string{"a", "b", "c", "in", "notin", "0-9", "x", "y", "z"}
	var terms []api.Term
	for range random.IntN(5) + random.IntN(2)*random.IntN(6) {
		x := api.Term{Key: pool[random.IntN(len(pool))], How: random.IntN(4)}
		if x.How == api.Is || x.How == api.IsNot {
			for _, i := range random.Perm(len(pool))[:1+random.IntN(3)] {
				x.Values = append(x.Values, pool[i])
			}
			if len(x.Values) == 1 && random.IntN(3) == 0 {
				x.Values[0] = ""
			}
		}
		terms = append(terms, x)
	}
	return terms
}

// spoil makes one of the terms, at times, one that is not valid.
func spoil(random *rand.Rand, terms []api.Term) {
	if len(terms) == 0 {
		return
	}
	x := &terms[random.IntN(len(terms))]
	switch random.IntN(9) {
	case 0:
		x.Key = []string{"", "A", "-", "a=b", "a,b"}[random.IntN(5)]
	case 1:
		x.How = []int{-1, 4, 1 << 40, -1 << 63}[random.IntN(4)]
	case 2:
		x.How = random.IntN(4)
	case 3:
		x.Values = append(x.Values, "")
	case 4:
		x.Values = append(x.Values, x.Values...)
	case 5:
		x.Values = append(x.Values, []string{"B", "a b", "c", "a)", ","}[random.IntN(5)])
	case 6:
		x.Values = append(x.Values, "1", "2", "3", "4", "5", "6", "7")
	}
}

// textOf is the text of valid terms, as the chapter tells it.
func textOf(terms []api.Term) string {
	var text strings.Builder
	for i, x := range terms {
		if i > 0 {
			text.WriteString(",")
		}
		list := strings.Join(x.Values, " ")
		switch one := len(x.Values) == 1; {
		case x.How == api.Is && one:
			fmt.Fprintf(&text, "%s=%s", x.Key, list)
		case x.How == api.Is:
			fmt.Fprintf(&text, "%s in (%s)", x.Key, list)
		case x.How == api.IsNot && one:
			fmt.Fprintf(&text, "%s!=%s", x.Key, list)
		case x.How == api.IsNot:
			fmt.Fprintf(&text, "%s notin (%s)", x.Key, list)
		case x.How == api.Has:
			text.WriteString(x.Key)
		default:
			fmt.Fprintf(&text, "!%s", x.Key)
		}
	}
	return text.String()
}

// P4.1, P4.3: Parse takes just the texts that the chapter tells, and Print gives each back.
func TestParseOfAnyText(t *testing.T) {
	random := rand.New(rand.NewPCG(1, 2))
	counts := map[api.Errno]int{}
	for range 40000 {
		text := randomText(random)
		want, errno := termsOf(text)
		checkParse(t, text, want, errno)
		counts[errno]++
		if got, parsed := label.Parse(text); parsed == api.OK {
			again, printed := label.Print(got)
			sameText(t, "Print of Parse", again, printed, text, api.OK)
		}
	}
	if counts[api.OK] < 2000 || counts[api.ErrTerm] < 2000 {
		t.Errorf("the texts were not of both kinds: %v", counts)
	}
}

// P4.1: the chapter's examples of Print, and its limits.
func TestPrint(t *testing.T) {
	eight := strings.Split("1 2 3 4 5 6 7 8", " ")
	for text, terms := range map[string][]api.Term{
		"":                                      nil,
		"a=x,!a":                                {term("a", api.Is, "x"), term("a", api.HasNot)},
		"a=":                                    {term("a", api.Is, "")},
		"a!=":                                   {term("a", api.IsNot, "")},
		"b notin (y x)":                         {term("b", api.IsNot, "y", "x")},
		"a in (1 2 3 4 5 6 7 8)":                {term("a", api.Is, eight...)},
		"a,a,a,a,a,a,a,a":                       slices.Repeat([]api.Term{term("a", api.Has)}, 8),
		"a=b,c!=,d in (x y),e notin (z w),f,!g": {term("a", api.Is, "b"), term("c", api.IsNot, ""), term("d", api.Is, "x", "y"), term("e", api.IsNot, "z", "w"), {Key: "f", How: api.Has, Values: []string{}}, term("g", api.HasNot)},
	} {
		got, errno := label.Print(terms)
		sameText(t, "Print", got, errno, text, api.OK)
	}
}

// P4.1: terms that are not valid, alone and behind valid ones, are refused by Print and by Match, ahead of the labels.
func TestTermsThatAreNotValid(t *testing.T) {
	nine := strings.Split("1 2 3 4 5 6 7 8 9", " ")
	for _, x := range []api.Term{
		term("a", api.Is), term("a", api.IsNot), term("a", api.Has, "x"), term("a", api.HasNot, "x"), term("a", api.Has, ""), term("a", 4), term("a", -1), term("a", 4, "x"),
		term("a", api.Is, "x", "x"), term("a", api.IsNot, "x", "y", "x"), term("a", api.Is, "x", ""), term("a", api.IsNot, "", "x"), term("a", api.Is, "", ""),
		term("a", api.Is, nine...), term("a", api.IsNot, nine...), term("a", api.Is, "X"), term("a", api.Is, "x", "Y"), term("a", api.Is, "x y"), term("a", api.Is, strings.Repeat("x", 33)),
		term("", api.Has), term("A", api.HasNot), term("", api.Is, "x"), term("a-", api.IsNot, "x"), term(strings.Repeat("x", 33), api.Has), {},
	} {
		for _, terms := range [][]api.Term{{x}, {term("z", api.Has), x}} {
			text, errno := label.Print(terms)
			sameText(t, fmt.Sprintf("Print(%v)", terms), text, errno, "", api.ErrTerm)
			for _, l := range [][]api.Label{nil, labelsOf("a=x"), labelsOf("b=1 a=1")} {
				if holds, errno := label.Match(terms, l); holds || errno != api.ErrTerm {
					t.Errorf("Match(%v, %v) = %v, %d", terms, l, holds, errno)
				}
			}
		}
	}
	many := slices.Repeat([]api.Term{term("a", api.Has)}, 9)
	text, errno := label.Print(many)
	sameText(t, "Print of nine terms", text, errno, "", api.ErrTerm)
	if holds, errno := label.Match(many, labelsOf("a=1")); holds || errno != api.ErrTerm {
		t.Errorf("Match of nine terms = %v, %d", holds, errno)
	}
}

// P4.1, P4.3: Print takes just valid terms, and Parse gives each back.
func TestPrintOfAnyTerms(t *testing.T) {
	random := rand.New(rand.NewPCG(1, 2))
	counts := map[api.Errno]int{}
	for range 20000 {
		terms := randomTerms(random)
		spoil(random, terms)
		want, wantErrno := "", api.ErrTerm
		if areTerms(terms) {
			want, wantErrno = textOf(terms), api.OK
		}
		counts[wantErrno]++
		text, errno := label.Print(terms)
		sameText(t, fmt.Sprintf("Print(%v)", terms), text, errno, want, wantErrno)
		if errno == api.OK {
			checkParse(t, text, terms, api.OK)
		}
	}
	if counts[api.OK] < 2000 || counts[api.ErrTerm] < 2000 {
		t.Errorf("the terms were not of both kinds: %v", counts)
	}
}

func checkMatch(t *testing.T, terms []api.Term, l []api.Label, want bool, wantErrno api.Errno) {
	t.Helper()
	if got, errno := label.Match(terms, l); got != want || errno != wantErrno {
		t.Errorf("Match(%v, %v) = %v, %d, want %v, %d", terms, l, got, errno, want, wantErrno)
	}
}

// P4.1: the chapter's examples of Match, and what it refuses.
func TestMatch(t *testing.T) {
	l := labelsOf("a=1 b=")
	for text, want := range map[string]bool{
		"": true, "a=1": true, "b=": true, "c=": false, "c!=": true, "a!=1": false, "a in (2 3)": false, "a notin (2 3)": true, "!c": true, "a,!b": false,
		"a": true, "b": true, "c": false, "!a": false, "!b": false, "a=": false, "a!=": true, "b!=": false, "b=1": false, "b!=1": true, "a in (2 1)": true, "a notin (2 1)": false, "c in (1 2)": false, "c notin (1 2)": true, "b in (1 2)": false, "b notin (1 2)": true,
		"a=1,b=,!c": true, "c,a": false, "a,b,c": false, "a=1,a=2": false, "a=1,a!=2,a": true,
	} {
		terms, errno := label.Parse(text)
		if errno != api.OK {
			t.Errorf("Parse(%q) = %d", text, errno)
		}
		checkMatch(t, terms, l, want, api.OK)
	}
	checkMatch(t, nil, nil, true, api.OK)
	checkMatch(t, []api.Term{}, []api.Label{}, true, api.OK)
	checkMatch(t, nil, labelsOf("b=1 a=1"), false, api.ErrLabel)
	checkMatch(t, []api.Term{term("a", api.Has)}, labelsOf("a=B"), false, api.ErrLabel)
	checkMatch(t, []api.Term{term("c", api.Has)}, labelsOf("a=1 a=1"), false, api.ErrLabel)
	sixteen := labelsOf("a=1 b=2 c= d=4 e=5 f=6 g=7 h=8 i=9 j=10 k=11 l=12 m=13 n=14 o=15 p=16")
	checkMatch(t, []api.Term{term("p", api.Is, "16"), term("a", api.Is, "1")}, sixteen, true, api.OK)
	checkMatch(t, []api.Term{term("p", api.Is, "16")}, append(sixteen, api.Label{Key: "q"}), false, api.ErrLabel)
}

// holdsOf is whether a valid term holds of labels, as the chapter tells it.
func holdsOf(x api.Term, l []api.Label) bool {
	for _, one := range l {
		if one.Key == x.Key {
			return x.How == api.Has || x.How != api.HasNot && slices.Contains(x.Values, one.Value) == (x.How == api.Is)
		}
	}
	return x.How == api.IsNot || x.How == api.HasNot
}

// P4.1, P4.4: terms hold if each alone does, and its opposite if it doesn't; a term looks at the label with its key alone.
func TestMatchOfAnyTerms(t *testing.T) {
	random := rand.New(rand.NewPCG(1, 2))
	keys := []string{"a", "b", "c", "in", "notin", "0-9"}
	opposite := []int{api.Is: api.IsNot, api.IsNot: api.Is, api.Has: api.HasNot, api.HasNot: api.Has}
	counts := map[bool]int{}
	for range 20000 {
		terms, l := randomTerms(random), randomLabels(random, keys, random.IntN(6))
		if !areLabels(l) || len(terms) > 8 {
			want := api.ErrLabel
			if len(terms) > 8 {
				want = api.ErrTerm
			}
			checkMatch(t, terms, l, false, want)
			continue
		}
		all := true
		for _, x := range terms {
			holds := holdsOf(x, l)
			all = all && holds
			checkMatch(t, []api.Term{x}, l, holds, api.OK)
			checkMatch(t, []api.Term{term(x.Key, opposite[x.How], x.Values...)}, l, !holds, api.OK)
			own := slices.DeleteFunc(slices.Clone(l), func(one api.Label) bool { return one.Key != x.Key })
			checkMatch(t, []api.Term{x}, own, holds, api.OK)
		}
		checkMatch(t, terms, l, all, api.OK)
		counts[all && len(terms) > 1]++
	}
	if counts[true] < 100 || counts[false] < 100 {
		t.Errorf("the matches were not of both kinds: %v", counts)
	}
}

// P4.1: answered lists are new memory, no two of them share any; what is handed in is left as it was, its spare room too.
func TestSelectorsShareNothing(t *testing.T) {
	const text = "a in (x y),b notin (z w),c=1,d!=2,e,!f"
	want, _ := termsOf(text)
	for spoiled := range want {
		got, _ := label.Parse(text)
		values := got[spoiled].Values
		clear(values[:cap(values)])
		_ = append(values, "more")
		for i := range got {
			if i != spoiled && !sameTerms(got[i:i+1], want[i:i+1]) {
				t.Errorf("term %d is %v behind a write into %d", i, got[i], spoiled)
			}
		}
		clear(got[:cap(got)])
		checkParse(t, text, want, api.OK)
	}
	room := []string{"x", "y", "z", "w"}
	terms := []api.Term{term("a", api.Is, room[:2]...), term("b", api.Has), term("c", api.Has)}
	labels := labelsOf("a=x b=1 c=2")
	printed, errno := label.Print(terms[:2])
	sameText(t, "Print", printed, errno, "a in (x y),b", api.OK)
	checkMatch(t, terms[:2], labels[:2], true, api.OK)
	if !slices.Equal(room, []string{"x", "y", "z", "w"}) || !sameTerms(terms, []api.Term{term("a", api.Is, "x", "y"), term("b", api.Has), term("c", api.Has)}) || !slices.Equal(labels, labelsOf("a=x b=1 c=2")) {
		t.Errorf("what was handed in was changed: %v, %v, %v", room, terms, labels)
	}
}
