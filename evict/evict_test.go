package evict_test

import (
	"fmt"
	"strings"
	"testing"

	"bursar/admit"
	"bursar/api"
	"bursar/evict"
	"bursar/object"
)

// P20.1: the chapter's first and second examples.
func TestPlanExamples(t *testing.T) {
	objects := []api.Object{obj("/a", "x", 0, "cpu", 600), obj("/a", "y", 0, "cpu", 300), obj("/a", "z", 5, "cpu", 100)}
	w := world(t, []api.Quota{hard("/a", "q", api.ScopeAll, "requests.cpu", 1000)}, objects...)
	planned(t, w, obj("/a", "n", 5, "cpu", 50), "y", api.OK)
	planned(t, w, obj("/a", "n", 5, "cpu", 400), "x", api.OK)
	planned(t, w, obj("/a", "n", 5, "cpu", 900), "y x", api.OK)
	planned(t, w, obj("/a", "n", 9, "cpu", 1000), "y x z", api.OK)
	planned(t, w, obj("/a", "n", 5, "cpu", 901), "", api.ErrNoWay)
	planned(t, w, obj("/a", "n", 0, "cpu", 50), "", api.ErrNoWay)
	planned(t, w, obj("/a", "n", 5, "cpu", 0), "", api.OK)

	w = world(t, []api.Quota{hard("/a", "q", api.ScopeAll, "requests.cpu", 2000)}, objects...)
	planned(t, w, obj("/a", "n", 0, "cpu", 1000), "", api.OK)
	planned(t, w, obj("/a", "x", 5, "cpu", 1), "", api.ErrExists)
	planned(t, w, obj("/a", "n", 5), "", api.ErrUnset)

	if plan, errno := evict.Plan(nil, obj("/a", "n", 5)); len(plan) != 0 || errno != api.ErrArg {
		t.Errorf("Plan(nil) = %v, %d", plan, errno)
	}
}

// P20.1: the third example; what is gone need not be of lower priority, and its path and name alone are looked at.
func TestEnough(t *testing.T) {
	x, y, z := obj("/a", "x", 0, "cpu", 600), obj("/a", "y", 0, "cpu", 300), obj("/a", "z", 5, "cpu", 100)
	w := world(t, []api.Quota{hard("/a", "q", api.ScopeAll, "requests.cpu", 1000)}, x, y, z)
	n := obj("/a", "n", 5, "cpu", 400)
	enough(t, w, n, true, api.OK, x)
	enough(t, w, n, false, api.OK, y)
	enough(t, w, n, false, api.OK)
	enough(t, w, n, true, api.OK, z, y)
	enough(t, w, n, true, api.OK, z, y, x)
	enough(t, w, n, true, api.OK, api.Object{Path: "/a", Name: "x", Priority: -7, Version: -1})
	enough(t, w, obj("/a", "n", 0, "cpu", 1), true, api.OK, z)

	enough(t, w, n, false, api.ErrMissing, x, x)
	enough(t, w, n, false, api.ErrMissing, x, y, z, x)
	enough(t, w, n, false, api.ErrMissing, obj("/a", "m", 0))
	enough(t, w, n, false, api.ErrMissing, x, obj("/b", "x", 0))
	enough(t, w, n, false, api.ErrMissing, api.Object{})
	enough(t, w, obj("/a", "N", 5), false, api.ErrMissing, obj("/a", "m", 0)) // ahead of what o is

	enough(t, w, obj("/a", "x", 5, "cpu", 600), true, api.OK, x) // its own name is free then
	enough(t, w, obj("/a", "x", 5, "cpu", 601), false, api.OK, x)
	enough(t, w, obj("/a", "x", 5, "cpu", 600), false, api.ErrExists, y)
	enough(t, w, obj("/a", "n", 5), false, api.ErrUnset, x)
	enough(t, w, obj("/a", "N", 5), false, api.ErrObject, x)
	enough(t, w, obj("/c", "n", 5), false, api.ErrNoNode, x)

	// ErrArg is ahead of all else.
	for _, gone := range [][]api.Object{nil, {x}, {x, x}} {
		if is, errno := evict.Enough(nil, n, gone); is || errno != api.ErrArg {
			t.Errorf("Enough(nil, %v) = %v, %d", gone, is, errno)
		}
	}
}

// P20.1: the fourth example: objects outside the quota that refuses stay.
func TestObjectsElsewhere(t *testing.T) {
	quotas := []api.Quota{hard("/a", "q", api.ScopeEnds, "count", 1000), hard("/", "r", api.ScopeAll, "count", 9000)}
	w := world(t, quotas, obj("/b", "far", 0, "cpu", 1), obj("/a", "other", 0, "cpu", 1), obj("/a-b", "near", 0, "cpu", 1), ending(obj("/a/b", "in", 3, "cpu", 1)))
	planned(t, w, ending(obj("/a", "n", 4)), "in", api.OK)
	planned(t, w, ending(obj("/a", "n", 3)), "", api.ErrNoWay)
	planned(t, w, obj("/a", "n", 3), "", api.OK)
	w = world(t, quotas[:1], ending(obj("/a", "high", 9)))
	planned(t, w, ending(obj("/b", "n", 0)), "", api.OK)
}

// P20.1: what refuses o ahead of all else, or not by room in a quota, is told, though lower ones lie there.
func TestOtherRefusals(t *testing.T) {
	w := world(t, []api.Quota{hard("/a", "q", api.ScopeAll, "count", 1000)}, obj("/a", "x", 0))
	rule := api.Rule{Resource: "cpu", Min: 10, Max: 100, Default: -1, Request: -1, Ratio: 2000}
	if errno := w.SetLimit(api.LimitRange{Path: "/", Name: "l", Rules: []api.Rule{rule}}); errno != api.OK {
		t.Fatalf("SetLimit: %d", errno)
	}
	n := func(request, limit int64) api.Object {
		o := obj("/a", "n", 9)
		if request >= 0 {
			o.Parts[0].Requests = amounts("cpu", request)
		}
		if limit >= 0 {
			o.Parts[0].Limits = amounts("cpu", limit)
		}
		return o
	}
	planned(t, w, n(50, 100), "x", api.OK)
	planned(t, w, n(9, 10), "", api.ErrMin)
	planned(t, w, n(50, 101), "", api.ErrMax)
	planned(t, w, n(51, 50), "", api.ErrAsk)
	planned(t, w, n(49, 100), "", api.ErrRatio)
	planned(t, w, n(50, -1), "", api.ErrNoCap)
	wrong := n(50, 100)
	wrong.Path = "/c"
	planned(t, w, wrong, "", api.ErrNoNode)
	for _, spoil := range []func(*api.Object){
		func(o *api.Object) { o.Path = "" },
		func(o *api.Object) { o.Name = "N" },
		func(o *api.Object) { o.Priority = 10 },
		func(o *api.Object) { o.Priority = -1 },
		func(o *api.Object) { o.Version = -1 },
		func(o *api.Object) { o.Parts = nil },
	} {
		wrong := n(50, 100)
		spoil(&wrong)
		planned(t, w, wrong, "", api.ErrObject)
	}
	planned(t, w, api.Object{}, "", api.ErrObject)

	two := obj("/b", "n", 9, "cpu", int64(most))
	two.Parts = append(two.Parts, api.Part{Name: "two", Requests: two.Parts[0].Requests})
	planned(t, world(t, nil), two, "", api.ErrOver)
	w = world(t, nil, obj("/b", "x", 0, "cpu", int64(most)))
	planned(t, w, obj("/a", "n", 9, "cpu", 1), "", api.ErrOver) // also where an eviction would cure it
	enough(t, w, obj("/a", "n", 9, "cpu", 1), false, api.ErrOver)
	enough(t, w, obj("/a", "n", 9, "cpu", 1), true, api.OK, obj("/b", "x", 0))
}

// P20.1: once there is room, another quota of the line asks for what o doesn't say; its own namespace's quotas come first.
func TestUnsetBehindQuota(t *testing.T) {
	count, cpu := hard("/a", "q", api.ScopeAll, "count", 1000), hard("/", "r", api.ScopeAll, "requests.cpu", 1000)
	w := world(t, []api.Quota{count, cpu}, obj("/a", "x", 0, "cpu", 1))
	planned(t, w, obj("/a", "n", 5, "cpu", 1), "x", api.OK)
	planned(t, w, obj("/a", "n", 5), "", api.ErrUnset)
	planned(t, w, obj("/a", "n", 0), "", api.ErrNoWay)
	enough(t, w, obj("/a", "n", 5), false, api.OK)
	enough(t, w, obj("/a", "n", 5), false, api.ErrUnset, obj("/a", "x", 0))

	// The other way round ErrUnset is the first, and no plan is made.
	count.Path, cpu.Path = "/", "/a"
	w = world(t, []api.Quota{count, cpu}, obj("/a", "x", 0, "cpu", 1))
	planned(t, w, obj("/a", "n", 0), "", api.ErrUnset)
	planned(t, w, obj("/a", "n", 0, "cpu", 1), "", api.ErrNoWay)

	// At one path they come by their names.
	w = world(t, []api.Quota{hard("/a", "b", api.ScopeAll, "count", 1000), hard("/a", "a", api.ScopeAll, "requests.cpu", 1000)}, obj("/a", "x", 0, "cpu", 1))
	planned(t, w, obj("/a", "n", 0), "", api.ErrUnset)
	w = world(t, []api.Quota{hard("/a", "b", api.ScopeAll, "requests.cpu", 1000), hard("/a", "a", api.ScopeAll, "count", 1000)}, obj("/a", "x", 0, "cpu", 1))
	planned(t, w, obj("/a", "n", 0), "", api.ErrNoWay)
	planned(t, w, obj("/a", "n", 1), "", api.ErrUnset)
}

// P20.1, P20.5: who is no candidate stays, though without it o would be taken: a sum above all amounts is in the way.
func TestNoCandidates(t *testing.T) {
	huge := int64(most - 10)
	small, n := obj("/a", "small", 0, "mem", 5), obj("/a", "n", 5, "cpu", 100, "mem", 5)
	memory := hard("/a", "q", api.ScopeAll, "count", 9000, "requests.mem", 9)
	cases := []struct {
		why        string
		quotas     []api.Quota
		small, big api.Object
		n          api.Object
		want       string
		errno      api.Errno
	}{
		{"it holds some", []api.Quota{memory}, small, obj("/a", "big", 0, "cpu", huge, "mem", 1), n, "big small", api.OK},
		{"below the quota's path", []api.Quota{memory}, small, obj("/a/b", "big", 0, "cpu", huge, "mem", 1), n, "big small", api.OK},
		{"at another path", []api.Quota{memory}, small, obj("/b", "big", 0, "cpu", huge, "mem", 1), n, "", api.ErrOver},
		{"at a path that begins alike", []api.Quota{memory}, small, obj("/a-b", "big", 0, "cpu", huge, "mem", 1), n, "", api.ErrOver},
		{"at a path above", []api.Quota{memory}, small, obj("/", "big", 0, "cpu", huge, "mem", 1), n, "", api.ErrOver},
		{"it has 0 of it", []api.Quota{memory}, small, obj("/a", "big", 0, "cpu", huge, "mem", 0), n, "", api.ErrOver},
		{"it doesn't name it", []api.Quota{memory}, small, obj("/a", "big", 0, "cpu", huge), n, "", api.ErrOver},
		{"it holds the count, of which enough is left", []api.Quota{memory, hard("/", "r", api.ScopeAll, "count", 3000)}, small, obj("/a", "big", 0, "cpu", huge), n, "", api.ErrOver},
		{"it holds the count, which is full too", []api.Quota{memory, hard("/", "r", api.ScopeAll, "count", 2000)}, small, obj("/a", "big", 0, "cpu", huge), n, "big small", api.OK},
		{"its priority is the same", []api.Quota{memory}, small, obj("/a", "big", 5, "cpu", huge, "mem", 1), n, "", api.ErrOver},
		{"its priority is lower by one", []api.Quota{memory}, small, obj("/a", "big", 4, "cpu", huge, "mem", 1), n, "small big", api.OK},
		{"in the scope", []api.Quota{hard("/a", "q", api.ScopeEnds, "requests.mem", 9)}, ending(small), ending(obj("/a", "big", 0, "cpu", huge, "mem", 1)), ending(n), "big small", api.OK},
		{"in another scope", []api.Quota{hard("/a", "q", api.ScopeEnds, "requests.mem", 9)}, ending(small), obj("/a", "big", 0, "cpu", huge, "mem", 1), ending(n), "", api.ErrOver},
		{"a quota of a scope that o isn't in", []api.Quota{memory, hard("/a", "r", api.ScopeEnds, "count", 1000)}, small, ending(obj("/a", "big", 0, "cpu", huge)), n, "", api.ErrOver},
		{"a quota below o's path", []api.Quota{memory, hard("/a/b", "r", api.ScopeAll, "count", 1000)}, small, obj("/a/b", "big", 0, "cpu", huge), n, "", api.ErrOver},
	}
	for _, c := range cases {
		t.Run(c.why, func(t *testing.T) {
			planned(t, world(t, c.quotas, c.small, c.big), c.n, c.want, c.errno)
		})
	}
}

// P20.1: a quota above, and the quotas of several of the line together; amounts of limits.
func TestSeveralQuotas(t *testing.T) {
	w := world(t, []api.Quota{hard("/", "r", api.ScopeAll, "count", 4000), hard("/a", "q", api.ScopeAll, "requests.cpu", 100)},
		obj("/b", "far", 0, "cpu", 1), obj("/a", "low", 1, "cpu", 50), obj("/a/b", "high", 2, "cpu", 50), obj("/b", "last", 3, "cpu", 1))
	planned(t, w, obj("/a", "n", 4, "cpu", 50), "low", api.OK) // it makes room in both: so far is given back
	planned(t, w, obj("/a", "n", 4, "cpu", 51), "low high", api.OK)
	planned(t, w, obj("/b", "n", 4, "cpu", 51), "far", api.OK)
	planned(t, w, obj("/a", "n", 1, "cpu", 0), "far", api.OK)
	planned(t, w, obj("/a", "n", 1, "cpu", 1), "", api.ErrNoWay)
	planned(t, w, obj("/a", "n", 0, "cpu", 0), "", api.ErrNoWay)

	capped := func(name string, priority int, limit int64) api.Object {
		o := obj("/a", name, priority, "cpu", 0)
		o.Parts[0].Limits = amounts("cpu", limit)
		return o
	}
	w = world(t, []api.Quota{hard("/a", "q", api.ScopeNotEnds, "limits.cpu", 100)}, capped("x", 0, 60), ending(capped("y", 0, 60)), capped("z", 1, 40))
	planned(t, w, capped("n", 2, 40), "x", api.OK)
	planned(t, w, capped("n", 2, 61), "x z", api.OK)
	planned(t, w, capped("n", 2, 101), "", api.ErrNoWay)
	w = world(t, []api.Quota{{Path: "/", Name: "q", Scope: api.Scope{Kind: api.ScopePriority, Arg: 7}, Hard: amounts("count", 1000)}}, obj("/a", "x", 7), obj("/a", "y", 0))
	planned(t, w, obj("/a", "n", 7), "", api.ErrNoWay) // who counts there is of its own priority
	planned(t, w, obj("/a", "n", 8), "", api.OK)
}

// P20.1: what a limit range gives counts for the scope and for what is used.
func TestDefaulted(t *testing.T) {
	w := world(t, []api.Quota{hard("/a", "q", api.ScopeNotBest, "requests.cpu", 1000)}, obj("/a", "x", 0, "cpu", 900), obj("/a", "y", 0))
	planned(t, w, obj("/a", "n", 1), "", api.OK) // it names nothing, so the quota doesn't speak of it
	rule := api.Rule{Resource: "cpu", Min: -1, Max: -1, Default: -1, Request: 200, Ratio: -1}
	if errno := w.SetLimit(api.LimitRange{Path: "/", Name: "l", Rules: []api.Rule{rule}}); errno != api.OK {
		t.Fatalf("SetLimit: %d", errno)
	}
	plan := planned(t, w, obj("/a", "n", 1), "x", api.OK)
	planned(t, w, obj("/a", "n", 0), "", api.ErrNoWay)
	if len(plan) == 1 && (plan[0].Version != 1 || plan[0].Path != "/a" || plan[0].Parts[0].Requests[0].Value != 900) {
		t.Errorf("the plan is %v, not as it lies in the world", plan)
	}
	rule.Request = 1001
	if errno := w.SetLimit(api.LimitRange{Path: "/a", Name: "l", Rules: []api.Rule{rule}}); errno != api.OK {
		t.Fatalf("SetLimit: %d", errno)
	}
	planned(t, w, obj("/a", "n", 1), "", api.ErrNoWay)
	planned(t, w, obj("/a", "n", 1, "cpu", 1000), "x", api.OK)
	unordered := obj("/a", "n", 1, "mem", 1, "cpu", 60, "cpu", 60)
	planned(t, w, unordered, "x", api.OK) // its amounts are brought into their form first
}

// P20.1: sums at and above the greatest amount.
func TestGreatAmounts(t *testing.T) {
	q := hard("/a", "q", api.ScopeAll, "requests.cpu", int64(most))
	w := world(t, []api.Quota{q}, obj("/a", "x", 0, "cpu", int64(most-10)), obj("/a", "y", 1, "cpu", 9))
	planned(t, w, obj("/a", "n", 5, "cpu", 1), "", api.OK)
	planned(t, w, obj("/a", "n", 5, "cpu", 2), "x", api.OK)
	planned(t, w, obj("/a", "n", 5, "cpu", int64(most-9)), "x", api.OK)
	planned(t, w, obj("/a", "n", 5, "cpu", int64(most)), "x y", api.OK)
	planned(t, w, obj("/a", "n", 1, "cpu", int64(most)), "", api.ErrNoWay)
}

// P20.1: the order in which they go: priority, the youngest first, then paths and names as bytes.
func TestOrderOfGoing(t *testing.T) {
	w := admit.New()
	for _, path := range []string{"/a", "/a/b", "/a-b"} {
		w.AddNode(path)
	}
	for _, one := range []struct {
		path, name string
		priority   int
		version    int64
	}{{"/a/b", "e", 0, 5}, {"/a-b", "d", 0, 5}, {"/a", "c", 0, 5}, {"/a", "b", 0, 5}, {"/a", "x", 0, 9}, {"/", "f", 0, 4}, {"/", "g", 1, 99}, {"/a", "h", 1, 0}} {
		if _, _, errno := w.Create(obj(one.path, one.name, one.priority), one.version); errno != api.OK {
			t.Fatalf("Create(%v): %d", one, errno)
		}
	}
	if _, errno := w.SetQuota(hard("/", "q", api.ScopeAll, "count", 8000)); errno != api.OK {
		t.Fatalf("SetQuota: %d", errno)
	}
	n := obj("/a", "n", 2)
	for _, want := range strings.Fields("x b c d e f g h") {
		plan := planned(t, w, n, want, api.OK)
		if len(plan) != 1 {
			return
		}
		// Who went is there again, of the same priority as n: so another one is next.
		w.Delete(plan[0].Path, plan[0].Name, 0)
		plan[0].Priority = 2
		if _, _, errno := w.Create(plan[0], 100); errno != api.OK {
			t.Fatalf("Create(%v): %d", plan[0], errno)
		}
	}
	planned(t, w, n, "", api.ErrNoWay)
}

// P20.5: a plan of MaxPlan objects is told, one of more is no way.
func TestLongPlans(t *testing.T) {
	crowd := func(n int) []api.Object {
		var l []api.Object
		for i := range n {
			l = append(l, obj("/a", fmt.Sprint("x", i), 0, "cpu", 2))
		}
		return l
	}
	quotas := func(v int) []api.Quota { return []api.Quota{hard("/a", "q", api.ScopeAll, "requests.cpu", v)} }
	w := world(t, quotas(2*api.MaxPlan), crowd(api.MaxPlan)...)
	plan, errno := evict.Plan(w, obj("/a", "n", 1, "cpu", 2*api.MaxPlan))
	if len(plan) != api.MaxPlan || errno != api.OK {
		t.Errorf("a plan of %d, %d", len(plan), errno)
	}
	w = world(t, quotas(2*api.MaxPlan+2), crowd(api.MaxPlan+1)...)
	planned(t, w, obj("/a", "n", 1, "cpu", 2*api.MaxPlan+1), "", api.ErrNoWay)
	enough(t, w, obj("/a", "n", 1, "cpu", 2*api.MaxPlan+2), true, api.OK, crowd(api.MaxPlan+1)...)
	plan, errno = evict.Plan(w, obj("/a", "n", 1, "cpu", 2*api.MaxPlan))
	if len(plan) != api.MaxPlan || errno != api.OK {
		t.Errorf("a plan of %d, %d", len(plan), errno)
	}

	// More than MaxPlan are taken, but the first is given back: it is younger than the others, and less.
	w = world(t, quotas(2*api.MaxPlan+1), append(crowd(api.MaxPlan), obj("/a", "young", 0, "cpu", 1))...)
	plan, errno = evict.Plan(w, obj("/a", "n", 1, "cpu", 2*api.MaxPlan))
	if len(plan) != api.MaxPlan || errno != api.OK || contains(plan, obj("/a", "young", 0)) {
		t.Errorf("a plan of %d, %d", len(plan), errno)
	}
	planned(t, w, obj("/a", "n", 1, "cpu", 2*api.MaxPlan+1), "", api.ErrNoWay)

	// Many more are taken, of which one alone stays gone.
	w = world(t, quotas(2*2000+5000), append([]api.Object{obj("/a", "old", 0, "cpu", 5000)}, crowd(2000)...)...)
	planned(t, w, obj("/a", "n", 1, "cpu", 5000), "old", api.OK)
}

// P20.2: an object whose record is as long as may be at the versions 0 to 127.
func TestLongestRecord(t *testing.T) {
	n := longest(t)
	w := world(t, []api.Quota{hard("/a", "q", api.ScopeAll, "count", 1000)}, obj("/a", "x", 0))
	for _, o := range planned(t, w, n, "x", api.OK) {
		if _, errno := w.Delete(o.Path, o.Name, o.Version); errno != api.OK {
			t.Fatalf("Delete: %d", errno)
		}
	}
	if _, _, errno := w.Create(n, 128); errno != api.ErrLong {
		t.Errorf("Create at 128: %d", errno)
	}
	if _, _, errno := w.Create(n, 127); errno != api.OK {
		t.Errorf("Create at 127: %d", errno)
	}
	n.Name = "nn"
	planned(t, w, n, "", api.ErrLong)
	enough(t, w, n, false, api.ErrLong)
}

// longest: an object /a n, of priority 9, of just api.MaxValue bytes at the version 0.
func longest(t *testing.T) api.Object {
	t.Helper()
	o := api.Object{Path: "/a", Name: "n", Priority: 9}
	for i := range api.MaxLabels {
		long := fmt.Sprintf("l%02d", i) + strings.Repeat("x", api.MaxLabelN-3)
		o.Labels = append(o.Labels, api.Label{Key: long, Value: long})
	}
	for i := range api.MaxParts {
		p := api.Part{Name: fmt.Sprint("p", i)}
		for k := range api.MaxAmounts {
			p.Requests = append(p.Requests, api.Amount{Name: fmt.Sprintf("r%02d", k) + strings.Repeat("x", 37), Value: 1 << 59})
		}
		o.Parts = append(o.Parts, p)
	}
	bytes, errno := object.EncodeObject(o)
	if errno != api.OK {
		t.Fatalf("EncodeObject: %d", errno)
	}
	for left := range api.MaxValue - len(bytes) {
		part := o.Parts[left%api.MaxParts]
		part.Requests[left/api.MaxParts%api.MaxAmounts].Name += "y"
	}
	if bytes, errno := object.EncodeObject(o); errno != api.OK || len(bytes) != api.MaxValue {
		t.Fatalf("an object of %d bytes, %d", len(bytes), errno)
	}
	return o
}

// P20.1: the fifth example; objects that are none are ordered too, those that it doesn't tell apart stay as they stand.
func TestOrder(t *testing.T) {
	of := func(path, name string, priority int, version int64) api.Object {
		return api.Object{Path: path, Name: name, Priority: priority, Version: version}
	}
	for _, c := range []struct {
		l    []api.Object
		want string
	}{
		{nil, ""},
		{[]api.Object{}, ""},
		{[]api.Object{of("", "a", 1, 1), of("", "b", 0, 1), of("", "c", 0, 2)}, "c b a"},
		{[]api.Object{of("/b", "b", 0, 1), of("/b", "a", 0, 1), of("/a", "z", 0, 1)}, "z a b"},
		{[]api.Object{of("/a/b", "x", 0, 1), of("/a-b", "y", 0, 1), of("/a", "z", 0, 1)}, "z y x"},
		{[]api.Object{of("", "a", 9, -1<<63), of("", "b", -1<<63, 0), of("", "c", 9, 1<<63-1), of("", "d", 1<<63-1, 1<<63-1)}, "b c a d"},
		{[]api.Object{of("", "b", 0, 0), of("", "", 0, 0), of("", "B", 0, 0), of("", "\xff", 0, 0), of("", "b\x00", 0, 0)}, " B b b\x00 \xff"},
	} {
		if got := namesOf(evict.Order(c.l)); got != c.want {
			t.Errorf("Order(%v) = %q, want %q", c.l, got, c.want)
		}
	}
	var alike []api.Object
	for i := range 100 {
		alike = append(alike, obj("/a", "x", i%2, "cpu", i))
	}
	for i, o := range evict.Order(alike) {
		if want := 2*(i%50) + i/50; o.Parts[0].Requests[0].Value != int64(want) {
			t.Errorf("at %d stands %v, want %d", i, o, want)
		}
	}
}
