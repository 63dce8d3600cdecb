package quota_test

import (
	"fmt"
	"slices"
	"strings"
	"testing"

	"bursar/api"
	"bursar/ledger"
	"bursar/object"
	"bursar/quota"
)

var (
	none = api.Detail{}
	full = tells("/a", "q", "", "requests.cpu")
	x    = asks("/a", "x", "cpu 500")
	q    = hard("/a", "q", "requests.cpu 1000")
)

func TestFirstExample(t *testing.T) {
	living := objects(x)
	answers(t, living, up(q), nil, asks("/a", "y", "cpu 500"), none, api.OK)
	answers(t, living, up(q), nil, asks("/a", "y", "cpu 501"), full, api.ErrQuota)
	answers(t, living, up(q), nil, asks("/a", "y", ""), tells("/a", "q", "main", "requests.cpu"), api.ErrUnset)
	answers(t, living, up(q), living, asks("/a", "x", "cpu 1000"), none, api.OK)
	answers(t, living, up(q), living, asks("/a", "x", "cpu 1001"), full, api.ErrQuota)
}

func TestSecondExample(t *testing.T) {
	counted, root := hard("/a", "q", "count 1000"), hard("/", "p", "requests.cpu 100")
	y := asks("/a", "y", "cpu 500")
	answers(t, objects(x), up(counted, root), nil, y, tells("/a", "q", "", "count"), api.ErrQuota)
	answers(t, objects(x), up(root, counted), nil, y, tells("/", "p", "", "requests.cpu"), api.ErrQuota)
	answers(t, objects(x), line{{root, counted}}, nil, y, tells("/", "p", "", "requests.cpu"), api.ErrQuota)
}

func TestThirdExample(t *testing.T) {
	y := asks("/a", "y", "cpu 5000")
	y.Priority = 4
	answers(t, objects(x), up(scoped(q, api.ScopePriority, 5)), nil, y, none, api.OK)
	answers(t, objects(x), up(scoped(q, api.ScopePriority, 4)), nil, y, full, api.ErrQuota)
	answers(t, objects(x), up(scoped(q, api.ScopeBest, 0)), nil, asks("/a", "y", "cpu 1"), none, api.OK)
}

func TestFourthExample(t *testing.T) {
	l := charged(t, x)
	if d, errno := quota.Below(l, q); d != none || errno != api.OK {
		t.Errorf("Below = %v, %d", d, errno)
	}
	if d, errno := quota.Below(l, hard("/a", "q", "requests.cpu 500")); d != none || errno != api.OK {
		t.Errorf("Below of just what is used = %v, %d", d, errno)
	}
	if d, errno := quota.Below(l, hard("/a", "q", "requests.cpu 499")); d != full || errno != api.ErrBelow {
		t.Errorf("Below of less = %v, %d", d, errno)
	}
	if lines := quota.Lines(l, q); !slices.Equal(lines, []api.Line{{Resource: "requests.cpu", Hard: 1000, Used: 500}}) {
		t.Errorf("Lines = %v", lines)
	}
	all, best := []api.Scope{{}}, []api.Scope{{Kind: api.ScopeBest}}
	left(t, l, up(q), all, "requests.cpu", 500)
	left(t, l, up(q), all, "count", -1)
	left(t, l, up(q), best, "requests.cpu", -1)
	left(t, l, up(hard("/a", "q", "requests.cpu 100")), all, "requests.cpu", 0)
}

func left(t *testing.T, l *ledger.Ledger, on line, scopes []api.Scope, resource string, want int64) {
	t.Helper()
	if n := quota.Left(l, on, scopes, resource); n != want {
		t.Errorf("Left(%v, %v, %q) = %d, want %d", on, scopes, resource, n, want)
	}
}

func TestFifthExample(t *testing.T) {
	y := asks("/a", "y", "cpu 1")
	if d, errno := quota.Fits(nil, up(q), nil, y); d != none || errno != api.ErrArg {
		t.Errorf("Fits of no ledger = %v, %d", d, errno)
	}
	answers(t, objects(x, x), up(q), objects(x, x), y, none, api.ErrArg)
	answers(t, objects(x), up(hard("/a", "q", "")), nil, y, none, api.ErrObject)
	if d, errno := quota.Below(nil, q); d != none || errno != api.ErrArg {
		t.Errorf("Below of no ledger = %v, %d", d, errno)
	}
}

// The sixth example, and what lies about it: no sum is lost.
func TestGreatestAmounts(t *testing.T) {
	great := asks("/a", "x", "cpu 9223372036854775000")
	wide := up(hard("/a", "q", "requests.cpu 9223372036854775807"))
	answers(t, objects(great), wide, nil, asks("/a", "y", "cpu 1000"), full, api.ErrQuota)
	answers(t, objects(great), wide, nil, asks("/a", "y", "cpu 808"), full, api.ErrQuota)
	answers(t, objects(great), wide, nil, asks("/a", "y", "cpu 807"), none, api.OK)
	answers(t, objects(great), wide, nil, asks("/a", "y", "cpu 9223372036854775807"), full, api.ErrQuota)
	answers(t, objects(great), wide, objects(great), asks("/a", "y", "cpu 9223372036854775807"), none, api.OK)
	answers(t, objects(great), up(hard("/a", "q", "requests.cpu 0")), nil, asks("/a", "y", "cpu 9223372036854775807"), full, api.ErrQuota)
	answers(t, nil, wide, nil, asks("/a", "y", "cpu 9223372036854775807"), none, api.OK)
	told(t, objects(great), wide, []api.Scope{{}}, "requests.cpu")
	left(t, ledger.New(), wide, []api.Scope{{}}, "requests.cpu", most)
}

// What gives way is taken off though it was never charged: what is left of what is used may be below 0, and counts so.
func TestOldThatWasNeverCharged(t *testing.T) {
	great := asks("/a", "z", "cpu 9223372036854775807")
	answers(t, objects(x), up(q), objects(great), asks("/a", "y", "cpu 9223372036854775807"), none, api.OK)
	answers(t, objects(x), up(hard("/a", "q", "requests.cpu 499")), objects(great), asks("/a", "y", "cpu 9223372036854775807"), full, api.ErrQuota)
	answers(t, nil, up(hard("/a", "q", "requests.cpu 0")), objects(great), great, none, api.OK)
	answers(t, nil, up(hard("/a", "q", "count 0")), objects(x), asks("/a", "y", ""), none, api.OK)
}

// The old one's share is none where it doesn't lie in the quota's scope, or not at its path or below it.
func TestOldElsewhere(t *testing.T) {
	now := asks("/a", "x", "cpu 600")
	for _, path := range []string{"/a", "/a/b", "/a/b/c"} {
		old := asks(path, "x", "cpu 500")
		answers(t, objects(old), up(q), objects(old), now, none, api.OK)
	}
	for _, path := range []string{"/", "/b", "/ab", "/a-b"} {
		old := asks(path, "x", "cpu 500")
		answers(t, objects(old, x), up(q), objects(old), now, full, api.ErrQuota)
	}
	last := scoped(q, api.ScopePriority, 3)
	now.Priority = 3
	old := asks("/a", "x", "cpu 500")
	answers(t, objects(now), up(last), objects(old), asks("/a", "x", "cpu 600"), none, api.OK) // now of priority 0: the quota isn't looked at
	answers(t, objects(now), up(last), objects(old), now, full, api.ErrQuota)
	answers(t, objects(now), up(last), objects(now), now, none, api.OK)
}

// A quota of the line is looked at, whatever its path: what now uses counts in full, what is used counts at the quota's path.
func TestQuotasElsewhere(t *testing.T) {
	y := asks("/a", "y", "cpu 500")
	answers(t, objects(x), up(hard("/b", "q", "requests.cpu 500")), nil, y, none, api.OK)
	answers(t, objects(x), up(hard("/b", "q", "requests.cpu 499")), nil, y, tells("/b", "q", "", "requests.cpu"), api.ErrQuota)
	answers(t, objects(x), up(hard("/a/b", "q", "requests.cpu 499")), nil, y, tells("/a/b", "q", "", "requests.cpu"), api.ErrQuota)
	answers(t, objects(x), up(hard("/b", "q", "requests.cpu 499")), objects(x), y, tells("/b", "q", "", "requests.cpu"), api.ErrQuota)
	answers(t, objects(asks("/a/b", "x", "cpu 500")), up(hard("/", "r", "requests.cpu 999")), nil, y, tells("/", "r", "", "requests.cpu"), api.ErrQuota)
	answers(t, objects(asks("/ab", "x", "cpu 500")), up(hard("/a", "q", "requests.cpu 500")), nil, y, none, api.OK)
}

// What is said: each part must name it, be it with 0; the first part that doesn't is told.
func TestSaid(t *testing.T) {
	l := up(hard("/a", "q", "count 5000 limits.cpu 10 requests.cpu 10"))
	unset := func(part, resource string) api.Detail { return tells("/a", "q", part, resource) }
	both := part("a", "cpu 0", "cpu 0")
	answers(t, nil, l, nil, parts("/a", "y", both, part("b", "cpu 1", "cpu 0")), none, api.OK)
	answers(t, nil, l, nil, parts("/a", "y", both, part("b", "cpu 1", "")), unset("b", "limits.cpu"), api.ErrUnset)
	answers(t, nil, l, nil, parts("/a", "y", both, part("b", "", "cpu 1")), unset("b", "requests.cpu"), api.ErrUnset)
	answers(t, nil, l, nil, parts("/a", "y", both, part("b", "mem 1", "mem 1"), part("c", "", "")), unset("b", "limits.cpu"), api.ErrUnset)
	answers(t, nil, l, nil, parts("/a", "y", part("a", "mem 1", "cpu 1"), part("b", "", "cpu 1")), unset("a", "requests.cpu"), api.ErrUnset)
	answers(t, nil, l, nil, parts("/a", "y", part("a", "cpua 1", "cpu 1")), unset("a", "requests.cpu"), api.ErrUnset)
	answers(t, nil, up(hard("/a", "q", "requests.count 1")), nil, asks("/a", "y", "cpu 1"), unset("main", "requests.count"), api.ErrUnset)
	answers(t, nil, up(hard("/a", "q", "requests.limits.cpu 1")), nil, parts("/a", "y", part("main", "", "cpu 1")), unset("main", "requests.limits.cpu"), api.ErrUnset)
	answers(t, nil, up(hard("/a", "q", "count 1000")), nil, asks("/a", "y", ""), none, api.OK)
	answers(t, nil, up(scoped(hard("/a", "q", "requests.cpu 10"), api.ScopeBest, 0)), nil, asks("/a", "y", ""), unset("main", "requests.cpu"), api.ErrUnset)
}

// Of several refusals the first of the line is told; of one amount's two, that it isn't said.
func TestOrderOfRefusals(t *testing.T) {
	two := parts("/a", "y", part("a", "cpu 50 mem 50", ""), part("b", "mem 50", ""))
	mem, cpu, counted := hard("/a", "m", "requests.mem 99"), hard("/a", "c", "requests.cpu 49"), hard("/", "n", "count 999")
	answers(t, nil, up(mem, cpu, counted), nil, two, tells("/a", "m", "", "requests.mem"), api.ErrQuota)
	answers(t, nil, up(cpu, mem, counted), nil, two, tells("/a", "c", "b", "requests.cpu"), api.ErrUnset)
	answers(t, nil, line{nil, {}, {counted, mem}, {cpu}}, nil, two, tells("/", "n", "", "count"), api.ErrQuota)
	answers(t, nil, up(hard("/a", "q", "count 999 requests.cpu 49 requests.mem 99")), nil, two, tells("/a", "q", "", "count"), api.ErrQuota)
	answers(t, nil, up(hard("/a", "q", "count 1000 requests.cpu 49 requests.mem 99")), nil, two, tells("/a", "q", "b", "requests.cpu"), api.ErrUnset)
	answers(t, nil, up(hard("/a", "q", "limits.cpu 0 requests.mem 99"), mem), nil, two, tells("/a", "q", "a", "limits.cpu"), api.ErrUnset)
	answers(t, nil, up(scoped(counted, api.ScopeEnds, 0), scoped(cpu, api.ScopeBest, 0), mem), nil, two, tells("/a", "m", "", "requests.mem"), api.ErrQuota)
}

// Why a call isn't taken is told in one order, whatever the line refuses.
func TestOrderOfErrors(t *testing.T) {
	wrong, beyond := asks("/a", "X", "cpu 1"), parts("/a", "y", part("a", "cpu 9223372036854775807", ""), part("b", "cpu 1", ""))
	capped := parts("/a", "y", part("a", "", "cpu 9223372036854775807"), part("b", "", "cpu 1"))
	bad := up(hard("/a", "q", "requests.cpu 0"), api.Quota{})
	answers(t, objects(x), bad, objects(wrong, wrong), wrong, none, api.ErrArg)
	answers(t, objects(x), bad, objects(x, x), x, none, api.ErrArg)
	answers(t, objects(x), up(q), objects(beyond), wrong, none, api.ErrObject)
	answers(t, objects(x), up(q), objects(wrong), beyond, none, api.ErrObject)
	answers(t, objects(x), bad, objects(beyond), beyond, none, api.ErrObject)
	answers(t, objects(x), bad, nil, asks("/a", "y", "cpu 1"), none, api.ErrObject)
	zero := up(hard("/a", "q", "count 0"))
	for _, o := range objects(beyond, capped) {
		for _, l := range []line{nil, zero, up(scoped(q, api.ScopePriority, 9))} {
			answers(t, objects(x), l, nil, o, none, api.ErrOver)
			answers(t, objects(x), l, objects(x), o, none, api.ErrOver)
			answers(t, objects(x), l, objects(o), asks("/a", "y", "cpu 1"), none, api.ErrOver)
		}
	}
	for _, wrongs := range [][]api.Object{nil, {wrong}, {wrong, wrong}} {
		if d, errno := quota.Fits(nil, bad, wrongs, wrong); d != none || errno != api.ErrArg {
			t.Errorf("Fits of no ledger = %v, %d", d, errno)
		}
	}
	if d, errno := quota.Below(nil, api.Quota{}); d != none || errno != api.ErrArg {
		t.Errorf("Below of no ledger and no quota = %v, %d", d, errno)
	}
}

// wrongObjects: each is not valid by one thing alone.
func wrongObjects() []api.Object {
	with := func(change func(o *api.Object)) api.Object {
		o := asks("/a", "y", "cpu 1")
		change(&o)
		return o
	}
	long := asks("/a", "y", "")
	long.Parts = nil
	var many []api.Amount
	for i := range 16 {
		many = append(many, api.Amount{Name: string(rune('a'+i)) + strings.Repeat("x", 47)})
	}
	for i := range 8 {
		long.Parts = append(long.Parts, api.Part{Name: string(rune('a' + i)), Requests: many, Limits: many})
	}
	return []api.Object{
		{},
		long, // well formed, but its bytes are too many
		with(func(o *api.Object) { o.Path = "a" }),
		with(func(o *api.Object) { o.Name = "" }),
		with(func(o *api.Object) { o.Labels = []api.Label{{Key: "B"}} }),
		with(func(o *api.Object) { o.Priority = 10 }),
		with(func(o *api.Object) { o.Priority = -1 }),
		with(func(o *api.Object) { o.Deadline = -1 }),
		with(func(o *api.Object) { o.Version = api.MaxStamp + 1 }),
		with(func(o *api.Object) { o.Parts = nil }),
		with(func(o *api.Object) { o.Parts = append(o.Parts, o.Parts[0]) }),
		with(func(o *api.Object) { o.Parts[0].Requests = amounts("cpu -1") }),
		with(func(o *api.Object) { o.Parts[0].Requests = amounts("mem 1 cpu 1") }),
		with(func(o *api.Object) { o.Parts[0].Limits = amounts("cpu 1 cpu 1") }),
		with(func(o *api.Object) { o.Parts[0].Limits = amounts("CPU 1") }),
	}
}

func wrongQuotas() []api.Quota {
	seventeen := ""
	for i := range 17 {
		seventeen += fmt.Sprintf("requests.r%02d 1 ", i)
	}
	l := []api.Quota{
		{}, hard("", "q", "count 1"), hard("a", "q", "count 1"), hard("/a/", "q", "count 1"), hard("/a", "", "count 1"), hard("/a", "Q", "count 1"),
		scoped(q, -1, 0), scoped(q, 6, 0), scoped(q, 0, 1), scoped(q, 1, 1), scoped(q, 5, 10), scoped(q, 5, -1),
	}
	for _, amount := range []string{"", "cpu 1", "requests. 1", "requests 1", "requests.CPU 1", "count -1", "requests.cpu -1", "Count 1", "requests.cpu 1 count 1", "count 1 count 1", seventeen} {
		l = append(l, hard("/a", "q", amount))
	}
	return l
}

func TestWrongObjects(t *testing.T) {
	for _, o := range wrongObjects() {
		for _, l := range []line{nil, up(q), up(hard("/a", "q", "count 0"))} {
			answers(t, objects(x), l, nil, o, none, api.ErrObject)
			answers(t, objects(x), l, objects(x), o, none, api.ErrObject)
			answers(t, objects(x), l, objects(o), asks("/a", "y", "cpu 1"), none, api.ErrObject)
		}
	}
}

// A quota that isn't valid is ErrObject wherever it stands, though others refuse ahead of it or its scope isn't now's.
func TestWrongQuotas(t *testing.T) {
	l := charged(t, x)
	y := asks("/a", "y", "cpu 501")
	for _, wrong := range wrongQuotas() {
		for _, on := range []line{up(wrong), up(q, wrong), {nil, {q, q, wrong}}, {{wrong}, {q}}} {
			answers(t, objects(x), on, nil, y, none, api.ErrObject)
		}
		if d, errno := quota.Below(l, wrong); d != none || errno != api.ErrObject {
			t.Errorf("Below(%+v) = %v, %d", wrong, d, errno)
		}
		if lines := quota.Lines(l, wrong); len(lines) != 0 {
			t.Errorf("Lines(%+v) = %v", wrong, lines)
		}
		for _, name := range []string{"", "cpu", "count", "requests.cpu", "requests."} {
			left(t, l, up(wrong), []api.Scope{{}, wrong.Scope}, name, -1)
		}
		left(t, l, up(wrong, q), []api.Scope{{}, wrong.Scope}, "requests.cpu", 500)
	}
	ends := scoped(hard("/a", "q", "cpu 1"), api.ScopeEnds, 0)
	answers(t, objects(x), up(ends), nil, asks("/a", "y", "cpu 1"), none, api.ErrObject)
}

func TestBelowTellsTheFirst(t *testing.T) {
	living := objects(parts("/a/b", "x", part("a", "cpu 10 mem 20", "cpu 30")))
	l := charged(t, living...)
	for _, c := range []struct {
		q    api.Quota
		want string
	}{
		{hard("/a", "q", "count 1000 limits.cpu 30 requests.cpu 10 requests.mem 20"), ""},
		{hard("/a", "q", "count 1000 limits.cpu 30 requests.cpu 9 requests.mem 19"), "requests.cpu"},
		{hard("/a", "q", "count 999 limits.cpu 29 requests.cpu 9"), "count"},
		{hard("/", "q", "limits.cpu 29 requests.cpu 9"), "limits.cpu"},
		{hard("/a/b", "q", "limits.mem 0 requests.mem 19"), "requests.mem"},
		{hard("/a/b/c", "q", "count 0 requests.mem 0"), ""},
		{hard("/b", "q", "count 0"), ""},
		{scoped(hard("/a", "q", "count 0"), api.ScopeBest, 0), ""},
		{scoped(hard("/a", "q", "count 0"), api.ScopePriority, 1), ""},
		{scoped(hard("/a", "q", "count 0"), api.ScopePriority, 0), "count"},
		{scoped(hard("/a", "q", "count 0"), api.ScopeNotEnds, 0), "count"},
	} {
		d, errno := quota.Below(l, c.q)
		if c.want == "" && (d != none || errno != api.OK) {
			t.Errorf("Below(%+v) = %v, %d", c.q, d, errno)
		}
		if c.want != "" && (d != tells(c.q.Path, "q", "", c.want) || errno != api.ErrBelow) {
			t.Errorf("Below(%+v) = %v, %d", c.q, d, errno)
		}
		told(t, living, up(c.q), []api.Scope{c.q.Scope}, "count")
	}
}

func TestLinesInOrder(t *testing.T) {
	l := charged(t, x, parts("/a/b", "y", part("a", "cpu 300", "mem 7")), asks("/b", "z", "cpu 9"))
	want := []api.Line{{Resource: "count", Hard: 5000, Used: 2000}, {Resource: "limits.cpu", Hard: 7, Used: 0}, {Resource: "limits.mem", Hard: 0, Used: 7}, {Resource: "requests.cpu", Hard: 10, Used: 800}}
	three := hard("/a", "q", "count 5000 limits.cpu 7 limits.mem 0 requests.cpu 10")
	if lines := quota.Lines(l, three); !slices.Equal(lines, want) {
		t.Errorf("Lines = %v", lines)
	}
	if lines := quota.Lines(nil, three); len(lines) != 0 {
		t.Errorf("Lines of no ledger = %v", lines)
	}
}

func TestLeftIsTheLeast(t *testing.T) {
	l := charged(t, x, asks("/b", "y", "cpu 100"))
	all, both := []api.Scope{{}}, []api.Scope{{Kind: api.ScopePriority, Arg: 0}, {}}
	root, prior := hard("/", "r", "requests.cpu 900"), scoped(hard("/a", "p", "count 3000 requests.cpu 550"), api.ScopePriority, 0)
	left(t, l, up(q, root), all, "requests.cpu", 300)
	left(t, l, up(root, q), all, "requests.cpu", 300)
	left(t, l, line{{q, prior}, {root}}, all, "requests.cpu", 300)
	left(t, l, line{{q, prior}, {root}}, both, "requests.cpu", 50)
	left(t, l, line{{q, prior}, {root}}, both, "count", 2000)
	left(t, l, line{{q, prior}, {root}}, all, "count", -1)
	left(t, l, line{{q, prior}, {root}}, nil, "requests.cpu", -1)
	left(t, l, line{{prior}}, []api.Scope{{Kind: api.ScopePriority, Arg: 1}}, "requests.cpu", -1)
	left(t, l, up(hard("/", "r", "requests.cpu 600"), q), all, "requests.cpu", 0)
	left(t, l, up(hard("/", "r", "requests.cpu 0"), q), all, "requests.cpu", 0)
	left(t, l, up(hard("/c", "r", "requests.cpu 7"), q), all, "requests.cpu", 7)
	for _, name := range []string{"", "cpu", "requests.", "requests.cp", "requests.cpu ", "limits.cpu", "\xff", strings.Repeat("x", 1<<16)} {
		left(t, l, up(q, root), all, name, -1)
	}
	for _, none := range []line{nil, {}, {nil}, {{}, nil}} {
		left(t, l, none, all, "requests.cpu", -1)
	}
	left(t, nil, up(q, root), all, "requests.cpu", -1)
}

// Empty lists are the same as none.
func TestNilAndEmpty(t *testing.T) {
	for _, l := range []line{nil, {}, {nil}, {{}}, {{}, nil}} {
		for _, old := range [][]api.Object{nil, {}} {
			answers(t, objects(x), l, old, asks("/a", "y", "cpu 4611686018427387904"), none, api.OK)
			answers(t, objects(x), append(l, []api.Quota{q}), old, asks("/a", "y", "cpu 501"), full, api.ErrQuota)
		}
	}
	bare := api.Object{Path: "/a", Name: "y", Labels: []api.Label{}, Parts: []api.Part{{Name: "main", Requests: []api.Amount{}, Limits: []api.Amount{}}}}
	answers(t, objects(x), up(scoped(hard("/a", "q", "count 999"), api.ScopeBest, 0)), nil, bare, tells("/a", "q", "", "count"), api.ErrQuota)
	answers(t, objects(x), up(scoped(hard("/a", "q", "count 0"), api.ScopeNotBest, 0)), nil, bare, none, api.OK)
}

// Long lines: each call still ends soon, and the last quota is looked at.
func TestLongLines(t *testing.T) {
	const n = 30000
	var all line
	for i := range n {
		all = append(all, []api.Quota{hard("/a", "q", fmt.Sprintf("count 5000 requests.cpu %d", 1000+n-i))})
	}
	all[n-1][0].Name = "last"
	l := charged(t, x)
	if d, errno := quota.Fits(l, all, objects(x), asks("/a", "y", "cpu 1001")); d != none || errno != api.OK {
		t.Errorf("Fits = %v, %d", d, errno)
	}
	if d, errno := quota.Fits(l, all, objects(x), asks("/a", "y", "cpu 1002")); d != tells("/a", "last", "", "requests.cpu") || errno != api.ErrQuota {
		t.Errorf("Fits = %v, %d", d, errno)
	}
	left(t, l, all, []api.Scope{{}}, "requests.cpu", 501)
}

// The longest valid object, and a quota with as many amounts as there may be.
func TestManyAmounts(t *testing.T) {
	var names, values []string
	for i := range 16 {
		names = append(names, fmt.Sprintf("r%02d 1", i))
		values = append(values, fmt.Sprintf("requests.r%02d 8", i))
	}
	o := api.Object{Path: "/a", Name: "y"}
	for i := range 8 {
		o.Parts = append(o.Parts, part(string(rune('a'+i)), strings.Join(names, " "), strings.Join(names, " ")))
	}
	if errno := object.ValidObject(o); errno != api.OK {
		t.Fatalf("ValidObject: %d", errno)
	}
	answers(t, objects(x), up(hard("/a", "q", strings.Join(values, " "))), nil, o, none, api.OK)
	values[15] = "requests.r15 7"
	answers(t, objects(x), up(hard("/a", "q", strings.Join(values, " "))), nil, o, tells("/a", "q", "", "requests.r15"), api.ErrQuota)
	o.Parts[7].Requests = o.Parts[7].Requests[:15]
	answers(t, objects(x), up(hard("/a", "q", strings.Join(values, " "))), nil, o, tells("/a", "q", "h", "requests.r15"), api.ErrUnset)
}
