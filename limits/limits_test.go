package limits_test

import (
	"fmt"
	"math"
	"strings"
	"testing"

	"bursar/api"
	"bursar/limits"
	"bursar/object"
)

var byL = api.Detail{Path: "/a", Name: "l", Part: "main", Resource: "cpu"}

func TestDefaultOfTheExamples(t *testing.T) {
	becomes(t, obj("", "cpu 500"), nil, "cpu 500", "cpu 500")
	becomes(t, obj("cpu 500", ""), nil, "cpu 500", "")
	one := by(cpu(off, off, 1000, 200, off))
	becomes(t, obj("", ""), one, "cpu 200", "cpu 1000")
	becomes(t, obj("", "cpu 300"), one, "cpu 200", "cpu 300")
	becomes(t, obj("cpu 100", ""), one, "cpu 100", "cpu 1000")
	two := line{{limit("/a", "l", cpu(off, off, 1000, off, off))}, {limit("/", "r", cpu(off, off, 5000, 700, off))}}
	becomes(t, obj("", ""), two, "cpu 700", "cpu 1000")
}

func TestCheckOfTheExamples(t *testing.T) {
	refuses(t, obj("cpu 600", "cpu 500"), nil, api.Detail{Part: "main", Resource: "cpu"}, api.ErrAsk)
	l := by(cpu(100, 1000, off, off, 2000))
	takes(t, obj("cpu 100", "cpu 200"), l)
	refuses(t, obj("cpu 100", "cpu 201"), l, byL, api.ErrRatio)
	refuses(t, obj("cpu 99", "cpu 150"), l, byL, api.ErrMin)
	refuses(t, obj("cpu 99", ""), l, byL, api.ErrMin)
	refuses(t, obj("cpu 600", "cpu 1001"), l, byL, api.ErrMax)
	refuses(t, obj("cpu 600", ""), l, byL, api.ErrNoCap)
	refuses(t, obj("", ""), l, byL, api.ErrMin)
	ratio := by(cpu(off, off, off, off, 2000))
	refuses(t, obj("cpu 0", "cpu 1"), ratio, byL, api.ErrRatio)
	takes(t, obj("cpu 0", "cpu 0"), ratio)
	near := line{{limit("/a", "n", cpu(200, off, off, off, off))}, {limit("/", "f", cpu(100, off, off, off, off))}}
	for _, requests := range []string{"cpu 150", "cpu 50"} {
		refuses(t, obj(requests, ""), near, api.Detail{Path: "/a", Name: "n", Part: "main", Resource: "cpu"}, api.ErrMin)
	}
}

func TestMergeOfTheExamples(t *testing.T) {
	mergesTo(t, line{{limit("/a", "n", cpu(200, off, off, off, off))}, {limit("/", "f", cpu(100, off, off, off, off))}}, cpu(200, off, off, off, off))
	mergesTo(t, in(limit("/a", "l", cpu(100, 1000, off, 5, 2000)), limit("/a", "m", cpu(50, 900, 7, 6, 3000))), cpu(100, 900, 7, 5, 2000))
	for _, none := range []line{nil, {}, {nil}, {{}, nil, {}}} {
		mergesTo(t, none)
	}
}

func TestAdmit(t *testing.T) {
	l := by(cpu(100, 1000, 1000, 200, 2000))
	full, d, errno := limits.Admit(obj("", "cpu 300"), l)
	if errno != api.OK || d != (api.Detail{}) || !same(full, obj("cpu 200", "cpu 300")) {
		t.Errorf("Admit = %+v, %+v, %d", full, d, errno)
	}
	for caps, want := range map[string]api.Errno{"": api.ErrRatio, "cpu 100": api.ErrAsk, "cpu 1001": api.ErrMax} {
		detail := byL
		if want == api.ErrAsk {
			detail.Path, detail.Name = "", ""
		}
		full, d, errno := limits.Admit(obj("", caps), l)
		if errno != want || d != detail || !same(full, api.Object{}) {
			t.Errorf("Admit with limits %q = %+v, %+v, %d, want %d", caps, full, d, errno, want)
		}
	}
	// What Default refuses has no Detail, though Check would have one.
	full, d, errno = limits.Admit(obj("cpu 2"+many(15), "cpu 1"), by(rule("z", 5, 1, 3, off, off)))
	if errno != api.ErrLong || d != (api.Detail{}) || !same(full, api.Object{}) {
		t.Errorf("Admit of what becomes too long = %+v, %+v, %d", full, d, errno)
	}
}

// many: n amounts with names behind "cpu".
func many(n int) string {
	text := ""
	for i := range n {
		text += fmt.Sprintf(" d%02d 1", i)
	}
	return text
}

// A number of 0 is set; a rule with nothing set asks for nothing and gives nothing.
func TestZeroIsSet(t *testing.T) {
	becomes(t, obj("", ""), by(cpu(off, off, 0, off, off)), "cpu 0", "cpu 0")
	becomes(t, obj("", ""), by(cpu(off, off, off, 0, off)), "cpu 0", "")
	becomes(t, obj("", "cpu 7"), by(cpu(off, off, 5, 0, off)), "cpu 0", "cpu 7")
	becomes(t, obj("cpu 0", "cpu 0"), by(cpu(off, off, 5, 6, off)), "cpu 0", "cpu 0")
	becomes(t, obj("", ""), in(limit("/", "a", cpu(off, off, 0, 0, off)), limit("/", "b", cpu(off, off, 1, 1, off))), "cpu 0", "cpu 0")
	refuses(t, obj("", ""), by(cpu(0, off, off, off, off)), byL, api.ErrMin)
	refuses(t, obj("", "cpu 1"), by(cpu(0, off, off, off, off)), byL, api.ErrMin)
	takes(t, obj("cpu 0", ""), by(cpu(0, off, off, off, off)))
	refuses(t, obj("", ""), by(cpu(off, 0, off, off, off)), byL, api.ErrNoCap)
	refuses(t, obj("cpu 0", "cpu 1"), by(cpu(off, 0, off, off, off)), byL, api.ErrMax)
	takes(t, obj("", "cpu 0"), by(cpu(off, 0, off, off, off)))
	refuses(t, obj("cpu 9", "cpu 9"), by(cpu(off, off, off, off, 0)), byL, api.ErrRatio)
	takes(t, obj("cpu 0", "cpu 0"), by(cpu(off, off, off, off, 0)))
	mergesTo(t, in(limit("/", "a", cpu(0, 0, 0, 0, 0)), limit("/", "b", cpu(1, 1, 1, 1, 1))), cpu(1, 0, 0, 0, 0))
	mergesTo(t, in(limit("/", "b", cpu(1, 1, 1, 1, 1)), limit("/", "a", cpu(0, 0, 0, 0, 0))), cpu(1, 0, 1, 1, 0))
	nothing := by(cpu(off, off, off, off, off))
	for _, o := range []api.Object{obj("", ""), obj("cpu 1", ""), obj("cpu 1", "cpu 9")} {
		becomes(t, o, nothing, strings.Trim(fmt.Sprint(o.Parts[0].Requests), "[{}]"), strings.Trim(fmt.Sprint(o.Parts[0].Limits), "[{}]"))
		takes(t, o, nothing)
	}
	mergesTo(t, nothing, cpu(off, off, off, off, off))
}

// What is given comes from the first rule that has it, of whatever range, and each number for itself; a Request goes ahead of the limit.
func TestWhereDefaultsComeFrom(t *testing.T) {
	l := line{
		{},
		{limit("/a", "l", cpu(1, 2, off, off, 3), rule("mem", off, off, off, 9, off)), limit("/a", "m", cpu(off, off, off, 40, off))},
		nil,
		{limit("/", "l", cpu(off, off, 50, 60, off), rule("disk", off, off, 8, off, off))},
		{limit("/", "m", cpu(off, off, 70, 80, off), rule("mem", off, off, 7, 6, off))},
	}
	becomes(t, obj("", ""), l, "cpu 40 disk 8 mem 9", "cpu 50 disk 8 mem 7")
	becomes(t, obj("cpu 1", ""), l, "cpu 1 disk 8 mem 9", "cpu 50 disk 8 mem 7")
	becomes(t, obj("", "cpu 1"), l, "cpu 40 disk 8 mem 9", "cpu 1 disk 8 mem 7")
	becomes(t, obj("gpu 3", "a 4 gpu 2"), l, "a 4 cpu 40 disk 8 gpu 3 mem 9", "a 4 cpu 50 disk 8 gpu 2 mem 7")
	becomes(t, obj("disk 1", "disk 2 mem 3"), l, "cpu 40 disk 1 mem 9", "cpu 50 disk 2 mem 3")
	mergesTo(t, l, cpu(1, 2, 50, 40, 3), rule("disk", off, off, 8, off, off), rule("mem", off, off, 7, 9, off))
}

// Every part is given what it lacks itself.
func TestEachPartIsDefaulted(t *testing.T) {
	o := api.Object{Path: "/a/b", Name: "x", Labels: []api.Label{{Key: "k", Value: "v"}}, Priority: 7, Deadline: 8, Version: 9,
		Parts: []api.Part{part("a", "", ""), part("b", "cpu 3", ""), part("c", "", "cpu 4 mem 5"), part("d", "cpu 1", "cpu 2")}}
	want := copied(o)
	want.Parts = []api.Part{part("a", "cpu 10", "cpu 10"), part("b", "cpu 3", "cpu 10"), part("c", "cpu 4 mem 5", "cpu 4 mem 5"), part("d", "cpu 1", "cpu 2")}
	if full, errno := limits.Default(o, by(cpu(off, off, 10, off, off))); errno != api.OK || !same(full, want) {
		t.Errorf("Default = %+v, %d", full, errno)
	}
}

// Of one rule the errors come in their order; a rule ahead goes before a worse one behind it; a resource before one behind it, whatever the rules' order; a part likewise; ErrAsk before all rules of its resource, and behind those of others.
func TestOrderOfRefusals(t *testing.T) {
	all := by(cpu(5, 1, off, off, 0))
	refuses(t, obj("cpu 4", "cpu 4"), all, byL, api.ErrMin)
	refuses(t, obj("cpu 4", ""), all, byL, api.ErrMin)
	refuses(t, obj("cpu 5", ""), all, byL, api.ErrNoCap)
	refuses(t, obj("cpu 5", "cpu 5"), all, byL, api.ErrMax)
	refuses(t, obj("cpu 5", "cpu 4"), all, api.Detail{Part: "main", Resource: "cpu"}, api.ErrAsk)
	refuses(t, obj("cpu 4", "cpu 3"), all, api.Detail{Part: "main", Resource: "cpu"}, api.ErrAsk)
	l := line{{limit("/a", "l", cpu(off, off, off, off, 0), rule("mem", 1, off, off, off, off))}, {limit("/", "r", rule("a", off, 1, off, off, off), cpu(9, off, off, off, off))}}
	refuses(t, obj("cpu 2", "cpu 2"), l, api.Detail{Path: "/", Name: "r", Part: "main", Resource: "a"}, api.ErrNoCap)
	refuses(t, obj("cpu 2", "a 1 cpu 2"), l, byL, api.ErrRatio)
	refuses(t, obj("cpu 2", "a 1"), l, api.Detail{Path: "/", Name: "r", Part: "main", Resource: "cpu"}, api.ErrMin)
	refuses(t, obj("cpu 9", "a 1"), l, api.Detail{Path: "/a", Name: "l", Part: "main", Resource: "mem"}, api.ErrMin)
	refuses(t, obj("cpu 9 mem 1 z 2", "a 1 z 1"), l, api.Detail{Part: "main", Resource: "z"}, api.ErrAsk)
	refuses(t, obj("b 2 cpu 9", "a 1 b 1"), l, api.Detail{Part: "main", Resource: "b"}, api.ErrAsk)
	takes(t, obj("cpu 9 mem 1", "a 1"), l)
	good, bad := part("b", "cpu 9 mem 1", "a 1"), part("a", "cpu 9", "a 1")
	refuses(t, parts(bad, good), l, api.Detail{Path: "/a", Name: "l", Part: "a", Resource: "mem"}, api.ErrMin)
	bad.Name = "c"
	refuses(t, parts(good, bad), l, api.Detail{Path: "/a", Name: "l", Part: "c", Resource: "mem"}, api.ErrMin)
	refuses(t, parts(good, bad, part("d", "", "")), l, api.Detail{Path: "/a", Name: "l", Part: "c", Resource: "mem"}, api.ErrMin)
	refuses(t, parts(part("a", "z 2", "z 1"), part("b", "b 2", "b 1")), nil, api.Detail{Part: "a", Resource: "z"}, api.ErrAsk)
}

// Resources come in the order of their bytes, rules or not.
func TestOrderOfResources(t *testing.T) {
	o := obj("a 2 a-b 2 a.b 2 a0 2 ab 2 b 2", "a 2 a-b 1 a.b 1 a0 1 ab 1 b 1")
	for _, name := range []string{"a-b", "a.b", "a0", "ab", "b"} {
		refuses(t, o, nil, api.Detail{Part: "main", Resource: name}, api.ErrAsk)
		for i, a := range o.Parts[0].Limits {
			if a.Name == name {
				o.Parts[0].Limits[i].Value = 2
			}
		}
	}
	takes(t, o, nil)
	becomes(t, obj("", "a 1 ab 5"), by(rule("a-b", off, off, 2, off, off), rule("a.b", off, off, 3, off, off), rule("a0", off, off, 4, off, off), rule("b", off, off, 6, off, off)),
		"a 1 a-b 2 a.b 3 a0 4 ab 5 b 6", "a 1 a-b 2 a.b 3 a0 4 ab 5 b 6")
}

// A request or limit of one resource, or of another part, says nothing of another's.
func TestPartsAndResourcesApart(t *testing.T) {
	l := by(cpu(5, off, off, off, off))
	refuses(t, obj("mem 5", ""), l, byL, api.ErrMin)
	refuses(t, parts(part("a", "cpu 5", ""), part("b", "", "")), l, api.Detail{Path: "/a", Name: "l", Part: "b", Resource: "cpu"}, api.ErrMin)
	refuses(t, parts(part("a", "cpu 3", ""), part("b", "cpu 3", "")), l, api.Detail{Path: "/a", Name: "l", Part: "a", Resource: "cpu"}, api.ErrMin)
	takes(t, parts(part("a", "cpu 6", "cpu 6"), part("b", "cpu 6", "cpu 6")), by(cpu(off, 6, off, off, off)))
	takes(t, parts(part("a", "cpu 5", "mem 1"), part("b", "cpu 9", "")), l)
}

// Ratios are held without loss, at the ends of what a number can be too.
func TestRatiosWithoutLoss(t *testing.T) {
	for _, c := range []struct {
		request, limit, ratio int64
		errno                 api.Errno
	}{
		{3, 4, 1333, api.ErrRatio}, {3, 4, 1334, api.OK}, {1, 1, 999, api.ErrRatio}, {1, 1, 1000, api.OK},
		{1000, 1001, 1000, api.ErrRatio}, {1000, 1001, 1001, api.OK},
		{0, 1, most, api.ErrRatio}, {0, 0, 0, api.OK}, {1, 1, 0, api.ErrRatio}, {0, most, most, api.ErrRatio},
		{most, most, 1000, api.OK}, {most, most, 999, api.ErrRatio}, {most, most, most, api.OK}, {most - 1, most, 1000, api.ErrRatio},
		{1 << 62, most, 2000, api.OK}, {1<<62 - 1, most, 2000, api.ErrRatio}, {1, most, most, api.ErrRatio}, {999, most, most, api.ErrRatio}, {1000, most, most, api.OK},
		{1, most / 1000, most, api.OK}, {1, most/1000 + 1, most, api.ErrRatio}, {1, 1 << 61, 1, api.ErrRatio},
	} {
		want := byL
		if c.errno == api.OK {
			want = api.Detail{}
		}
		o := parts(api.Part{Name: "main", Requests: []api.Amount{{Name: "cpu", Value: c.request}}, Limits: []api.Amount{{Name: "cpu", Value: c.limit}}})
		refuses(t, o, by(cpu(off, off, off, off, c.ratio)), want, c.errno)
	}
	// With one of the two missing there is nothing to hold a ratio against.
	takes(t, obj("cpu 5", ""), by(cpu(off, off, off, off, 0)))
	takes(t, obj("", "cpu 5"), by(cpu(off, off, off, off, 0)))
	takes(t, obj("", ""), by(cpu(off, off, off, off, 0)))
	takes(t, obj("", "cpu 5"), by(cpu(off, 5, off, off, 0)))
}

func TestTheGreatestAmounts(t *testing.T) {
	top := fmt.Sprint("cpu ", most)
	takes(t, obj(top, top), by(cpu(most, most, most, most, 1000)))
	refuses(t, obj(fmt.Sprint("cpu ", most-1), top), by(cpu(most, most, most, most, most)), byL, api.ErrMin)
	refuses(t, obj(top, top), by(cpu(most, most-1, most, most, most)), byL, api.ErrMax)
	becomes(t, obj("", ""), by(cpu(most, most, most, most, most)), top, top)
	mergesTo(t, in(limit("/", "a", cpu(most, most, most, most, most)), limit("/", "b", cpu(off, off, off, off, off))), cpu(most, most, most, most, most))
	mergesTo(t, in(limit("/", "b", cpu(off, off, off, off, off)), limit("/", "a", cpu(most, most, most, most, most))), cpu(most, most, most, most, most))
	mergesTo(t, in(limit("/", "a", cpu(most-1, most, 1, 2, most)), limit("/", "b", cpu(most, most-1, 3, 4, most-1))), cpu(most, most-1, 1, 2, most-1))
}

func TestObjectsThatAreNone(t *testing.T) {
	name := func(n int, first string) string { return first + strings.Repeat("x", n-1) }
	var long api.Object
	long.Path, long.Name = "/a", "x"
	for i := range 8 {
		p := api.Part{Name: string(rune('a' + i))}
		for k := range 16 {
			p.Requests = append(p.Requests, api.Amount{Name: name(48, string(rune('a'+k)))})
			p.Limits = append(p.Limits, api.Amount{Name: name(48, string(rune('a'+k)))})
		}
		long.Parts = append(long.Parts, p)
	}
	if errno := object.ValidObject(long); errno != api.ErrLong {
		t.Fatalf("the long object: %d", errno)
	}
	good := by(cpu(1, 2, 3, 4, 5))
	for what, o := range map[string]api.Object{
		"nothing": {}, "no parts": parts(), "nine parts": parts(part("a", "", ""), part("b", "", ""), part("c", "", ""), part("d", "", ""), part("e", "", ""), part("f", "", ""), part("g", "", ""), part("h", "", ""), part("i", "", "")),
		"parts twice": parts(part("a", "", ""), part("a", "", "")), "parts that fall": parts(part("b", "", ""), part("a", "", "")),
		"amounts that fall": obj("mem 1 cpu 1", ""), "amounts twice": obj("", "cpu 1 cpu 1"), "an amount below 0": obj("cpu -1", ""), "a limit below 0": obj("", "cpu -1"), "no resource": obj("CPU 1", ""),
		"no path": {Path: "a", Name: "x", Parts: obj("", "").Parts}, "no name": {Path: "/a", Parts: obj("", "").Parts}, "priority": {Path: "/a", Name: "x", Priority: 10, Parts: obj("", "").Parts},
		"version": {Path: "/a", Name: "x", Version: -1, Parts: obj("", "").Parts}, "labels": {Path: "/a", Name: "x", Labels: []api.Label{{Key: "b"}, {Key: "a"}}, Parts: obj("", "").Parts},
		"17 requests": obj(many(17), ""), "17 limits": obj("", many(17)), "too long": long,
	} {
		allRefuse(t, what, o, nil, false)
		allRefuse(t, what, o, good, false)
		allRefuse(t, what, o, by(cpu(-2, off, off, off, off)), true)
	}
}

// A range that is none refuses all, wherever in the line it stands, and also where it would have nothing to say.
func TestRangesThatAreNone(t *testing.T) {
	good := limit("/a", "g", cpu(off, off, off, off, off))
	var tooMany []api.Rule
	for i := range 17 {
		tooMany = append(tooMany, rule(fmt.Sprintf("r%02d", i), off, off, off, off, off))
	}
	bad := map[string]api.LimitRange{
		"nothing": {}, "no rules": limit("/a", "l"), "no path": limit("", "l", cpu(1, 1, 1, 1, 1)), "no such path": limit("/a/", "l", cpu(1, 1, 1, 1, 1)), "no name": limit("/", "", cpu(1, 1, 1, 1, 1)),
		"no resource": limit("/", "l", rule("", 1, 1, 1, 1, 1)), "a resource with a capital": limit("/", "l", rule("CPU", 1, 1, 1, 1, 1)),
		"rules that fall": limit("/", "l", rule("mem", 1, 1, 1, 1, 1), cpu(1, 1, 1, 1, 1)), "a rule twice": limit("/", "l", cpu(1, 1, 1, 1, 1), cpu(1, 1, 1, 1, 1)), "17 rules": limit("/", "l", tooMany...),
	}
	for i := range 5 {
		for _, v := range []int64{-2, math.MinInt64} {
			numbers := [5]int64{1, 1, 1, 1, 1}
			numbers[i] = v
			bad[fmt.Sprint("numbers ", numbers)] = limit("/", "l", cpu(numbers[0], numbers[1], numbers[2], numbers[3], numbers[4]))
		}
	}
	for what, one := range bad {
		for _, l := range []line{{{one}}, {{good}, {one}}, {{one}, {good}}, {{good, one}}, {{one, good}}, {nil, {}, {good, good, one, good}, {good}}} {
			allRefuse(t, what, obj("cpu 1", "cpu 1"), l, true)
			allRefuse(t, what, obj("cpu 2"+many(15), "cpu 1"), l, true)
		}
	}
	// What is wrong with the range goes ahead of what is wrong with the object that comes of it, and of too many resources.
	l := in(limit("/a", "l", tooMany[:9]...), limit("/a", "m", tooMany[8:]...))
	l[0][0].Rules[3].Default = 1
	if _, errno := limits.Merge(l); errno != api.ErrLong {
		t.Errorf("Merge of 17 resources: %d", errno)
	}
	if _, errno := limits.Default(obj(many(16), ""), l); errno != api.ErrLong {
		t.Errorf("Default of 17 requests: %d", errno)
	}
	l = append(l, []api.LimitRange{limit("/a", "l")})
	allRefuse(t, "both", obj(many(16), ""), l, true)
}

// Sixteen amounts of a list stand; one more, given by whatever way, is too many.
func TestTooManyAmounts(t *testing.T) {
	full := func(o api.Object, l line, want api.Errno) {
		t.Helper()
		if _, errno := limits.Default(o, l); errno != want {
			t.Errorf("Default(%+v, %+v): %d, want %d", o, l, errno, want)
		}
		asked(t, o, l)
	}
	full(obj(many(16), ""), nil, api.OK)
	full(obj(many(16), ""), by(cpu(5, 6, off, off, 7)), api.OK)
	full(obj(many(16), ""), by(cpu(off, off, 1, off, off)), api.ErrLong)
	full(obj(many(16), ""), by(cpu(off, off, off, 1, off)), api.ErrLong)
	full(obj(many(15), ""), by(cpu(off, off, 1, 1, off)), api.OK)
	full(obj("", many(16)), nil, api.OK)
	full(obj("", many(16)), by(cpu(off, off, off, 1, off)), api.ErrLong)
	full(obj("cpu 1", many(16)), nil, api.ErrLong)
	full(obj("cpu 1", many(15)), nil, api.OK)
	full(obj("cpu 1", many(16)), by(cpu(off, off, 1, off, off)), api.ErrLong)
	full(parts(part("a", "", ""), part("b", many(16), ""), part("c", "", "")), by(cpu(off, off, 1, off, off)), api.ErrLong)
	// Limits that are given for requests that are there.
	var rules []api.Rule
	for _, a := range amounts(many(16)) {
		rules = append(rules, rule(a.Name, off, off, 9, off, off))
	}
	full(obj(many(16), ""), by(rules...), api.OK)
	full(obj(many(16), ""), append(by(rules...), by(cpu(off, off, 1, off, off))...), api.ErrLong)
	full(obj("", ""), append(by(rules...), by(cpu(off, off, off, off, 4))...), api.OK)
	full(obj("", ""), append(by(rules...), by(cpu(off, off, off, 4, off))...), api.ErrLong)
}

// What is given may bring an object to just api.MaxValue bytes, and not beyond.
func TestTooManyBytes(t *testing.T) {
	var rules []api.Rule
	var requests []api.Amount
	for i := range 16 {
		name := string(rune('a'+i)) + strings.Repeat("x", 47)
		requests = append(requests, api.Amount{Name: name, Value: 1})
		if i < 4 {
			rules = append(rules, rule(name, off, off, 1, off, off))
		}
	}
	o := api.Object{Path: "/" + strings.Repeat("p", 32) + "/" + strings.Repeat("q", 30), Labels: []api.Label{{Key: strings.Repeat("k", 32), Value: strings.Repeat("v", 32)}}}
	for i := range 8 {
		o.Parts = append(o.Parts, api.Part{Name: string(rune('a' + i)), Requests: requests})
	}
	longest, refused := 0, 0
	for n := 1; n <= 32; n++ {
		o.Name = strings.Repeat("n", n)
		asked(t, o, by(rules...))
		full, errno := limits.Default(o, by(rules...))
		if errno == api.ErrLong {
			refused++
			continue
		}
		text, errno := object.EncodeObject(full)
		if errno != api.OK || refused > 0 {
			t.Fatalf("a name of %d bytes: %d, behind %d that were too long", n, errno, refused)
		}
		longest = len(text)
	}
	if longest != api.MaxValue || refused == 0 {
		t.Errorf("the longest object has %d bytes; %d were too long", longest, refused)
	}
}

func TestMergeOfManyResources(t *testing.T) {
	rules := func(from, to int) []api.Rule {
		var l []api.Rule
		for i := from; i < to; i++ {
			l = append(l, rule(fmt.Sprintf("r%02d", i), int64(i), off, off, off, off))
		}
		return l
	}
	mergesTo(t, line{{limit("/a", "l", rules(8, 16)...)}, {limit("/", "l", rules(0, 8)...)}}, rules(0, 16)...)
	mergesTo(t, line{{limit("/a", "l", rules(0, 16)...)}, {limit("/", "l", rules(0, 16)...), limit("/", "m", rules(3, 9)...)}}, rules(0, 16)...)
	for _, l := range []line{{{limit("/a", "l", rules(0, 16)...)}, {limit("/", "l", rules(16, 17)...)}}, {{limit("/a", "l", rules(1, 17)...), limit("/", "l", rules(0, 9)...)}}, {{limit("/", "l", rules(0, 9)...), limit("/", "m", rules(20, 29)...)}}} {
		if merged, errno := limits.Merge(l); errno != api.ErrLong || len(merged) != 0 {
			t.Errorf("Merge of more than 16 resources = %+v, %d", merged, errno)
		}
	}
}

// Long lines: many ranges of one resource, and many resources; each call still ends soon.
func TestLongLines(t *testing.T) {
	const n = 30000
	var alike, others line
	for i := range n {
		alike = append(alike, []api.LimitRange{limit("/a", "l", cpu(int64(i), int64(2*n-i), off, off, off))})
		others = append(others, []api.LimitRange{limit("/a", "l", rule(fmt.Sprintf("r%05d", n-1-i), off, off, 5, off, off))})
	}
	alike[n-1][0].Name = "last"
	mergesTo(t, alike, cpu(n-1, n+1, off, off, off))
	eight := func(requests, caps string) api.Object {
		var o api.Object
		for i := range 8 {
			o.Parts = append(o.Parts, part(string(rune('a'+i)), requests, caps))
		}
		o.Path, o.Name = "/a", "x"
		return o
	}
	within, below := fmt.Sprint("cpu ", n), fmt.Sprint("cpu ", n-2)
	if full, _, errno := limits.Admit(eight(within, within), alike); errno != api.OK || !same(full, eight(within, within)) {
		t.Errorf("Admit by many ranges: %d", errno)
	}
	if d, errno := limits.Check(eight(below, within), alike); errno != api.ErrMin || d != (api.Detail{Path: "/a", Name: "last", Part: "a", Resource: "cpu"}) {
		t.Errorf("Check by many ranges: %+v, %d", d, errno)
	}
	if _, errno := limits.Default(eight("", ""), others); errno != api.ErrLong {
		t.Errorf("Default by many resources: %d", errno)
	}
	if _, errno := limits.Merge(others); errno != api.ErrLong {
		t.Errorf("Merge of many resources: %d", errno)
	}
	others[0][0].Rules[0].Min = 3
	if d, errno := limits.Check(eight("", ""), others); errno != api.ErrMin || d.Resource != fmt.Sprintf("r%05d", n-1) || d.Part != "a" {
		t.Errorf("Check by many resources: %+v, %d", d, errno)
	}
}
