package scope_test

import (
	"math"
	"slices"
	"strings"
	"testing"

	"bursar/api"
	"bursar/scope"
)

func two() api.Object {
	return api.Object{Priority: 3, Parts: []api.Part{
		{Name: "a", Requests: amounts("cpu", 500, "mem", 2000), Limits: amounts("cpu", 1000)},
		{Name: "b", Requests: amounts("cpu", 250)},
	}}
}

func TestObjectsOfTheExamples(t *testing.T) {
	of(t, two(), api.Scope{Kind: 0}, api.Scope{Kind: 2}, api.Scope{Kind: 4}, api.Scope{Kind: 5, Arg: 3})
	uses(t, two(), amounts("count", 1000, "limits.cpu", 1000, "requests.cpu", 750, "requests.mem", 2000), api.OK)
	o := api.Object{Priority: 12, Deadline: 7, Parts: []api.Part{{Name: "a"}, {Name: "b"}}}
	of(t, o, api.Scope{Kind: 0}, api.Scope{Kind: 1}, api.Scope{Kind: 3})
	uses(t, o, amounts("count", 1000), api.OK)
	of(t, asks("cpu", 0), api.Scope{Kind: 0}, api.Scope{Kind: 2}, api.Scope{Kind: 4}, api.Scope{Kind: 5})
	uses(t, asks("cpu", 0), amounts("count", 1000, "requests.cpu", 0), api.OK)
	uses(t, asks("cpu", 5, "cpu", 6), amounts("count", 1000, "requests.cpu", 11), api.OK)
	uses(t, asks("cpu", -1), nil, api.ErrArg)
	uses(t, asks("cpu", most, "cpu", most), nil, api.ErrOver)
	uses(t, asks("cpu", most, "cpu", most, "mem", -1), nil, api.ErrArg)
}

func TestNoParts(t *testing.T) {
	for _, parts := range [][]api.Part{nil, {}, {{}}, {{Requests: []api.Amount{}, Limits: []api.Amount{}}}} {
		o := api.Object{Parts: parts}
		of(t, o, api.Scope{Kind: 0}, api.Scope{Kind: 1}, api.Scope{Kind: 4}, api.Scope{Kind: 5})
		uses(t, o, amounts("count", 1000), api.OK)
	}
}

// Limits name resources just as requests do, in whatever part they stand.
func TestLimitsAlone(t *testing.T) {
	for _, o := range []api.Object{caps("cpu", 0), {Parts: []api.Part{{}, {}, {Limits: amounts("cpu", 0)}}}} {
		if scope.In(o, api.Scope{Kind: api.ScopeBest}) || !scope.In(o, api.Scope{Kind: api.ScopeNotBest}) {
			t.Errorf("%#v names a resource", o)
		}
		uses(t, o, amounts("count", 1000, "limits.cpu", 0), api.OK)
	}
	uses(t, caps("b", 1, "a", 2, "b", 3), amounts("count", 1000, "limits.a", 2, "limits.b", 4), api.OK)
	uses(t, caps("cpu", -1), nil, api.ErrArg)
	uses(t, caps("cpu", most, "cpu", 1), nil, api.ErrOver)
}

// The greatest sum is told, one more is refused; requests and limits of one name are sums of their own.
func TestSumsAtTheBound(t *testing.T) {
	uses(t, asks("cpu", most), amounts("count", 1000, "requests.cpu", most), api.OK)
	uses(t, asks("cpu", most-1, "cpu", 1), amounts("count", 1000, "requests.cpu", most), api.OK)
	uses(t, asks("cpu", most, "cpu", 0), amounts("count", 1000, "requests.cpu", most), api.OK)
	uses(t, asks("cpu", most, "cpu", 1), nil, api.ErrOver)
	uses(t, asks("cpu", 1, "mem", 5, "cpu", most), nil, api.ErrOver)
	uses(t, asks("cpu", most, "mem", most), amounts("count", 1000, "requests.cpu", most, "requests.mem", most), api.OK)
	o := asks("cpu", most)
	o.Parts[0].Limits = amounts("cpu", most)
	uses(t, o, amounts("count", 1000, "limits.cpu", most, "requests.cpu", most), api.OK)
	o.Parts = append(o.Parts, api.Part{Requests: amounts("cpu", 0), Limits: amounts("cpu", 1)})
	uses(t, o, nil, api.ErrOver)
	// Sums that come back to a value that may be, when they wrap round.
	uses(t, asks("cpu", most, "cpu", most, "cpu", 2), nil, api.ErrOver)
	uses(t, asks("cpu", most, "cpu", most, "cpu", most, "cpu", most, "cpu", 5), nil, api.ErrOver)
	// A count that an object names itself is a resource like others.
	uses(t, asks("count", most), amounts("count", 1000, "requests.count", most), api.OK)
}

// An amount below 0 is told ahead of every sum, wherever it stands, and whatever the sum with it would be.
func TestBelowZeroGoesFirst(t *testing.T) {
	over := api.Part{Requests: amounts("cpu", most, "cpu", most), Limits: amounts("cpu", most, "cpu", most)}
	for _, below := range []int{-1, -1000, math.MinInt64} {
		for _, bad := range []api.Part{{Requests: amounts("mem", below)}, {Limits: amounts("mem", below)}, {Requests: amounts("cpu", 5000, "cpu", below)}, {Limits: amounts("cpu", 1, "", below)}} {
			for _, parts := range [][]api.Part{{bad}, {over, bad}, {bad, over}, {{}, over, {}, bad}} {
				o := api.Object{Parts: parts}
				uses(t, o, nil, api.ErrArg)
				asked(t, o)
			}
		}
	}
}

// Names are bytes of any kind; the answer's order is that of the whole name.
func TestNamesOfAnyBytes(t *testing.T) {
	o := api.Object{Parts: []api.Part{{
		Requests: amounts("", 1, "\xff", 2, "\x00", 3, "limits.x", 4, "a.b", 5, "a", 6, "a-b", 7, "B", 8),
		Limits:   amounts("z", 9, "", 10, "requests.x", 11),
	}}}
	uses(t, o, amounts("count", 1000, "limits.", 10, "limits.requests.x", 11, "limits.z", 9,
		"requests.", 1, "requests.\x00", 3, "requests.B", 8, "requests.a", 6, "requests.a-b", 7, "requests.a.b", 5, "requests.limits.x", 4, "requests.\xff", 2), api.OK)
	name := strings.Repeat("n", 1<<16)
	uses(t, asks(name, 1, name, 2), amounts("count", 1000, "requests."+name, 3), api.OK)
}

func TestManyAmounts(t *testing.T) {
	var o api.Object
	for i := range 3000 {
		p := api.Part{Requests: amounts("r", i, string([]byte{byte(i), byte(i >> 8)}), i)}
		o.Parts = append(o.Parts, p)
	}
	asked(t, o)
	if l, errno := scope.Uses(o); len(l) != 3002 || errno != api.OK {
		t.Errorf("Uses tells %d names, %d", len(l), errno)
	}
}

// Deadlines and priorities in and out of what a valid object has.
func TestDeadlinesAndPriorities(t *testing.T) {
	for deadline, kind := range map[int64]int{0: api.ScopeNotEnds, -1: api.ScopeNotEnds, math.MinInt64: api.ScopeNotEnds, 1: api.ScopeEnds, 1 << 32: api.ScopeEnds, 1 << 60: api.ScopeEnds, 1<<60 + 1: api.ScopeEnds, most: api.ScopeEnds} {
		of(t, api.Object{Deadline: deadline, Priority: 9}, api.Scope{Kind: api.ScopeAll}, api.Scope{Kind: api.ScopeBest}, api.Scope{Kind: kind}, api.Scope{Kind: api.ScopePriority, Arg: 9})
	}
	for _, priority := range numbers {
		want := []api.Scope{{Kind: 0}, {Kind: 1}, {Kind: 4}}
		if priority >= 0 && priority <= 9 {
			want = append(want, api.Scope{Kind: 5, Arg: priority})
		}
		of(t, api.Object{Priority: priority}, want...)
	}
}

// All pairs of numbers: 15 are scopes, and nothing lies in, prints as or is within any other.
func TestScopes(t *testing.T) {
	objects := []api.Object{{}, two(), {Priority: 10, Deadline: 1}, {Priority: -1, Deadline: -1}, {Priority: math.MaxInt}, {Priority: math.MinInt}, {Priority: 255}}
	valid := 0
	for _, s := range pairs() {
		want, is := texts[s]
		if scope.Valid(s) != is {
			t.Errorf("Valid(%v) = %t", s, !is)
		}
		wantErrno := api.OK
		if is {
			valid++
		} else {
			wantErrno = api.ErrScope
		}
		if text, errno := scope.Print(s); text != want || errno != wantErrno {
			t.Errorf("Print(%v) = %q, %d, want %q, %d", s, text, errno, want, wantErrno)
		}
		for _, o := range objects {
			if scope.In(o, s) != lies(o, s) || scope.In(o, s) != slices.Contains(scope.Of(o), s) {
				t.Errorf("In(%#v, %v) = %t", o, s, scope.In(o, s))
			}
		}
	}
	if valid != 15 || len(texts) != 15 {
		t.Errorf("%d valid scopes", valid)
	}
}

// parsed holds Parse of a text against its form; what is taken prints as that text again.
func parsed(t *testing.T, text string) {
	t.Helper()
	s, errno := scope.Parse(text)
	if !textForm.MatchString(text) {
		if s != (api.Scope{}) || errno != api.ErrScope {
			t.Errorf("Parse(%q) = %v, %d", text, s, errno)
		}
		return
	}
	if errno != api.OK || texts[s] != text {
		t.Errorf("Parse(%q) = %v, %d", text, s, errno)
	}
	if again, errno := scope.Print(s); again != text || errno != api.OK {
		t.Errorf("Print(Parse(%q)) = %q, %d", text, again, errno)
	}
}

func TestTexts(t *testing.T) {
	for s, text := range texts {
		if got, errno := scope.Parse(text); got != s || errno != api.OK {
			t.Errorf("Parse(%q) = %v, %d", text, got, errno)
		}
		parsed(t, text)
		// Texts near to it: one byte another, one too few, one too many, cut short, twice.
		for i := range len(text) {
			parsed(t, text[:i])
			parsed(t, text[:i]+text[i+1:])
			for b := range 256 {
				parsed(t, text[:i]+string([]byte{byte(b)})+text[i+1:])
				parsed(t, text[:i]+string([]byte{byte(b)})+text[i:])
			}
		}
		for b := range 256 {
			parsed(t, text+string([]byte{byte(b)}))
		}
		parsed(t, text+text)
		parsed(t, strings.ToUpper(text))
	}
	for _, text := range []string{
		"", " ", "All", "ALL", "best ", " best", "not best", "notall", "notpriority=1", "priority", "priority=", "priority=10", "priority=05", "priority=-1", "priority=+1", "priority= 1", "priority=a",
		"priority=0x1", "priority=1.0", "priority=٣", "priority5", "priority==5", "priority=5=", "all=", "all=0", "best=0", "0", "5", "{0 0}", "all,best", "all\x00", "\xff", strings.Repeat("all", 1<<18), "priority=" + strings.Repeat("0", 1<<18) + "5",
	} {
		if s, errno := scope.Parse(text); s != (api.Scope{}) || errno != api.ErrScope {
			t.Errorf("Parse(%.40q) = %v, %d", text, s, errno)
		}
	}
}

// thinkable: an object of each priority, with and without a deadline, with and without amounts.
func thinkable() []api.Object {
	var l []api.Object
	for priority := range 10 {
		for _, deadline := range []int64{0, 1} {
			for _, parts := range [][]api.Part{nil, {{Requests: amounts("cpu", 1)}}} {
				l = append(l, api.Object{Priority: priority, Deadline: deadline, Parts: parts})
			}
		}
	}
	return l
}

// Within is what the objects say, and what its second form says.
func TestWithin(t *testing.T) {
	for a := range texts {
		for b := range texts {
			within := true
			for _, o := range thinkable() {
				if scope.In(o, a) && !scope.In(o, b) {
					within = false
				}
			}
			if within != (a == b || b == api.Scope{}) {
				t.Errorf("the objects of %v in %v: %t", a, b, within)
			}
			if scope.Within(a, b) != within {
				t.Errorf("Within(%v, %v) = %t", a, b, !within)
			}
		}
	}
	for _, none := range pairs() {
		if _, is := texts[none]; is {
			continue
		}
		if scope.Within(none, none) {
			t.Errorf("Within of %v and itself, which is none", none)
		}
		for s := range texts {
			if scope.Within(none, s) || scope.Within(s, none) {
				t.Errorf("Within of %v, which is none, and %v", none, s)
			}
		}
	}
}
