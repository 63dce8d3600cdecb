package evict_test

import (
	"fmt"
	"math"
	"math/big"
	"math/rand/v2"
	"slices"
	"strings"
	"testing"

	"bursar/admit"
	"bursar/api"
	"bursar/evict"
)

func anyValue(r *rand.Rand) int64 {
	if r.IntN(30) == 0 {
		return pick[int64](r, most, most-1, most/2, most/2+1, most-1000)
	}
	return pick[int64](r, 0, 1, 2, 5, 10, 100, r.Int64N(1000))
}

// anyAmounts: in any order, a name now and then twice.
func anyAmounts(r *rand.Rand) []api.Amount {
	var l []api.Amount
	for range pick(r, 0, 1, 1, 2, 3) {
		l = append(l, api.Amount{Name: pick(r, "cpu", "cpu", "mem"), Value: anyValue(r)})
	}
	return l
}

func anyObject(r *rand.Rand) api.Object {
	o := api.Object{
		Path:     pick(r, "/", "/a", "/a", "/a/b", "/a-b", "/b"),
		Name:     fmt.Sprint(pick(r, "x", "y", "x-"), r.IntN(6)),
		Priority: pick(r, 0, 0, 1, 2, 5, 9),
		Deadline: pick[int64](r, 0, 0, 7),
		Version:  pick[int64](r, 0, 0, 9),
	}
	for range r.IntN(3) {
		o.Labels = []api.Label{{Key: pick(r, "k", "l"), Value: pick(r, "", "v")}}
	}
	for _, name := range pick(r, []string{"a"}, []string{"a"}, []string{"b", "a"}) {
		o.Parts = append(o.Parts, api.Part{Name: name, Requests: anyAmounts(r)})
		if r.IntN(8) == 0 {
			o.Parts[len(o.Parts)-1].Limits = anyAmounts(r)
		}
	}
	return o
}

// anyAsker: an object that asks for room, mostly of a high priority and at a path where others lie.
func anyAsker(r *rand.Rand) api.Object {
	o := anyObject(r)
	o.Priority = pick(r, o.Priority, 5, 9)
	o.Path = pick(r, o.Path, "/a", "/a/b")
	return o
}

func anyScope(r *rand.Rand) api.Scope {
	kind := pick(r, 0, 0, 0, 1, 2, 3, 4, 5)
	if kind == api.ScopePriority {
		return api.Scope{Kind: kind, Arg: pick(r, 0, 1, 5, 9)}
	}
	return api.Scope{Kind: kind}
}

// anyQuota: not below what is used, and mostly not far above it.
func anyQuota(r *rand.Rand, objects []api.Object) api.Quota {
	q := api.Quota{Path: pick(r, "/", "/a", "/a", "/a/b", "/b"), Name: fmt.Sprint("q", r.IntN(4)), Scope: anyScope(r)}
	for _, name := range []string{"count", "limits.cpu", "requests.cpu", "requests.mem"} {
		if r.IntN(3) > 0 && len(q.Hard) > 0 || name == "limits.cpu" && r.IntN(4) > 0 {
			continue
		}
		sum := big.NewInt(pick[int64](r, 0, 0, 1, 10, 500, 1000, 2000))
		for _, o := range objects {
			sum.Add(sum, share(o, q, name))
		}
		value := int64(most)
		if sum.IsInt64() {
			value = sum.Int64()
		}
		q.Hard = append(q.Hard, api.Amount{Name: name, Value: value})
	}
	return q
}

func anyRange(r *rand.Rand) api.LimitRange {
	l := api.LimitRange{Path: pick(r, "/", "/a", "/a/b"), Name: pick(r, "l", "m")}
	for _, name := range pick(r, []string{"cpu"}, []string{"mem"}, []string{"cpu", "mem"}) {
		set := func(values ...int64) int64 { return pick(r, -1, -1, pick(r, values...)) }
		l.Rules = append(l.Rules, api.Rule{Resource: name, Min: set(0, 1), Max: set(most, 900), Default: set(1, 100), Request: set(1, 50, 500), Ratio: set(most, 3000)})
	}
	return l
}

// anyWorld: what it refuses on the way is left out. Some objects lie there from before its limit ranges and quotas.
func anyWorld(t *testing.T, r *rand.Rand) *admit.World {
	t.Helper()
	w := world(t, nil)
	for range pick(r, 1, 2, 2) {
		for range r.IntN(8) {
			w.Create(anyObject(r), pick[int64](r, 1, 2, 2, 3))
		}
		for range pick(r, 0, 0, 0, 0, 1, 2) {
			w.SetLimit(anyRange(r))
		}
		for range pick(r, 0, 1, 1, 2, 3) {
			w.SetQuota(anyQuota(r, w.Dump().Objects))
		}
	}
	return w
}

// P20.1 to P20.6: a plan is what the chapter's words say, and keeps what it promises; each of its answers comes often.
func TestAnyPlan(t *testing.T) {
	r := source(1)
	seen := map[outcome]int{}
	for range 5000 {
		seen[askedFor(t, r, anyWorld(t, r), anyAsker(r))]++
	}
	for _, one := range []outcome{
		{api.OK, api.OK, 0},
		{api.ErrQuota, api.OK, 1}, {api.ErrQuota, api.OK, 2},
		{api.ErrQuota, api.ErrNoWay, 0}, {api.ErrQuota, api.ErrUnset, 0}, {api.ErrQuota, api.ErrOver, 0},
		{api.ErrUnset, api.ErrUnset, 0}, {api.ErrOver, api.ErrOver, 0}, {api.ErrExists, api.ErrExists, 0},
		{api.ErrObject, api.ErrObject, 0}, {api.ErrAsk, api.ErrAsk, 0}, {api.ErrMin, api.ErrMin, 0}, {api.ErrNoCap, api.ErrNoCap, 0},
	} {
		if seen[one] < 5 {
			t.Errorf("%+v came %d times", one, seen[one])
		}
	}
}

// P20.1 to P20.6: where many lie that each hold a little, plans are long, and of those that were taken some are given back.
func TestAnyCrowd(t *testing.T) {
	r := source(6)
	seen := map[outcome]int{}
	for range 1500 {
		o := crowdObject(r, "n", 60)
		o.Priority = pick(r, 3, 5, 5)
		seen[askedFor(t, r, crowded(t, r), o)]++
	}
	for _, one := range []outcome{{api.OK, api.OK, 0}, {api.ErrQuota, api.OK, 1}, {api.ErrQuota, api.OK, 2}, {api.ErrQuota, api.OK, 3}, {api.ErrQuota, api.OK, 5}, {api.ErrQuota, api.ErrNoWay, 0}} {
		if seen[one] < 10 {
			t.Errorf("%+v came %d times", one, seen[one])
		}
	}
}

func crowdObject(r *rand.Rand, name string, most int) api.Object {
	o := obj(pick(r, "/a", "/a", "/a/b", "/"), name, r.IntN(5), "cpu", r.IntN(most), "mem", r.IntN(most))
	o.Deadline = pick[int64](r, 0, 0, 7)
	return o
}

func crowded(t *testing.T, r *rand.Rand) *admit.World {
	t.Helper()
	w := world(t, nil)
	for i := range 4 + r.IntN(10) {
		if _, _, errno := w.Create(crowdObject(r, fmt.Sprint("x", i), 10), r.Int64N(4)); errno != api.OK {
			t.Fatalf("Create: %d", errno)
		}
	}
	for range pick(r, 1, 2, 3) {
		w.SetQuota(anyQuota(r, w.Dump().Objects))
	}
	return w
}

// outcome: what refuses an object now, and what Plan tells of it.
type outcome struct {
	now, errno api.Errno
	long       int
}

// askedFor asks for a plan, and for all that is promised of it.
func askedFor(t *testing.T, r *rand.Rand, w *admit.World, o api.Object) outcome {
	t.Helper()
	d := w.Dump()
	plan, errno := evict.Plan(w, o)
	want, wanted := planOf(t, d, o)
	if text(plan) != text(want) || errno != wanted {
		t.Fatalf("Plan(%v) = %v, %d, want %v, %d, in %v", o, plan, errno, want, wanted, d)
	}
	now := judgedIn(t, d, nil, o)
	if now == api.OK && len(plan) > 0 {
		t.Fatalf("P20.6: Plan(%v) = %v, though it is taken", o, plan)
	}
	if len(plan) > 0 {
		works(t, r, d, o, plan)
		isLeast(t, d, o, plan)
		harmsLeast(t, d, o, plan)
	}
	tellsNoWay(t, d, o, now, errno)
	if fmt.Sprint(w.Dump()) != fmt.Sprint(d) {
		t.Fatalf("P20.6: Plan(%v) has changed the world", o)
	}
	return outcome{now, errno, len(plan)}
}

func lower(d api.Dump, o api.Object) []api.Object {
	return slices.DeleteFunc(slices.Clone(d.Objects), func(other api.Object) bool { return other.Priority >= o.Priority })
}

// P20.2
func works(t *testing.T, r *rand.Rand, d api.Dump, o api.Object, plan []api.Object) {
	t.Helper()
	w := worldOf(t, d, nil)
	for _, one := range plan {
		there, errno := w.Delete(one.Path, one.Name, one.Version)
		if errno != api.OK || text([]api.Object{there}) != text([]api.Object{one}) || one.Priority >= o.Priority {
			t.Fatalf("P20.2: Delete of %v tells %v, %d; for %v", one, there, errno, o)
		}
	}
	version := r.Int64N(128)
	got, _, errno := w.Create(o, version)
	want := becomes(t, d, o)
	want.Version = version
	if errno != api.OK || text([]api.Object{got}) != text([]api.Object{want}) {
		t.Fatalf("P20.2: Create(%v, %d) tells %v, %d, want %v", o, version, got, errno, want)
	}
}

// P20.3
func isLeast(t *testing.T, d api.Dump, o api.Object, plan []api.Object) {
	t.Helper()
	for i := range plan {
		others := slices.Concat(plan[:i], plan[i+1:])
		if is, _ := evict.Enough(worldOf(t, d, nil), o, others); is || judgedIn(t, d, others, o) == api.OK {
			t.Fatalf("P20.3: %v is enough for %v without %v", others, o, plan[i])
		}
	}
}

// P20.4: of the candidates that lie ahead of the plan's last one all together are asked, and some sets of them.
func harmsLeast(t *testing.T, d api.Dump, o api.Object, plan []api.Object) {
	t.Helper()
	candidates := candidatesFor(t, d, o)
	last := slices.IndexFunc(candidates, func(c api.Object) bool { return same(c, plan[len(plan)-1]) })
	if last < 0 {
		t.Fatalf("%v is no candidate for %v", plan[len(plan)-1], o)
	}
	sets := [][]api.Object{candidates[:last]}
	for set := range 1 << min(last, 4) {
		var gone []api.Object
		for i, c := range candidates[:last] {
			if set>>(i%4)&1 == 1 {
				gone = append(gone, c)
			}
		}
		sets = append(sets, gone)
	}
	for _, gone := range sets {
		if judgedIn(t, d, gone, o) == api.OK {
			t.Fatalf("P20.4: %v is enough for %v, the plan is %v", gone, o, plan)
		}
	}
}

// P20.5, where no plan is long.
func tellsNoWay(t *testing.T, d api.Dump, o api.Object, now, errno api.Errno) {
	t.Helper()
	no := now == api.ErrQuota && judgedIn(t, d, lower(d, o), o) == api.ErrQuota
	if no != (errno == api.ErrNoWay) {
		t.Fatalf("P20.5: Plan(%v) tells %d in %v", o, errno, d)
	}
}

// P20.1, P20.6: Enough is what the chapter's words say.
func TestAnyEnough(t *testing.T) {
	r := source(2)
	seen := map[string]int{}
	for range 4000 {
		w, o := anyWorld(t, r), anyAsker(r)
		d := w.Dump()
		var gone []api.Object
		for range r.IntN(6) {
			if len(d.Objects) > 0 && r.IntN(20) > 0 {
				gone = append(gone, pick(r, d.Objects...))
			}
		}
		if r.IntN(3) > 0 {
			gone = slices.CompactFunc(ordered(gone), same)
		}
		if r.IntN(8) == 0 {
			gone = append(gone, anyObject(r))
		}
		is, errno := evict.Enough(w, o, gone)
		want, wanted := enoughOf(t, d, o, gone)
		if is != want || errno != wanted {
			t.Fatalf("Enough(%v, %v) = %v, %d, want %v, %d, in %v", o, gone, is, errno, want, wanted, d)
		}
		seen[fmt.Sprint(is, " ", int(errno))]++
		if fmt.Sprint(w.Dump()) != fmt.Sprint(d) {
			t.Fatalf("P20.6: Enough(%v, %v) has changed the world", o, gone)
		}
	}
	for _, kind := range []string{"true 0", "false 0", "false 191", "false 190", "false 181", "false 7"} {
		if seen[kind] < 20 {
			t.Errorf("%s was answered %d times", kind, seen[kind])
		}
	}
}

func enoughOf(t *testing.T, d api.Dump, o api.Object, gone []api.Object) (bool, api.Errno) {
	t.Helper()
	for i, g := range gone {
		if !contains(d.Objects, g) || contains(gone[:i], g) {
			return false, api.ErrMissing
		}
	}
	errno := judgedIn(t, d, gone, o)
	if errno == api.ErrQuota {
		return false, api.OK
	}
	return errno == api.OK, errno
}

// P20.1: any objects in the order.
func TestAnyOrder(t *testing.T) {
	r := source(3)
	for range 2000 {
		var l []api.Object
		for range r.IntN(12) {
			l = append(l, spoilt(r, anyObject(r)))
		}
		if got := evict.Order(l); text(got) != text(ordered(l)) {
			t.Fatalf("Order(%v) = %v", l, got)
		}
	}
}

func wildText(r *rand.Rand) string {
	return pick(r, "/", "/a", "x", "cpu", "", "?", "A", "a/b", "\x00", "\xff", strings.Repeat("x", 49), strings.Repeat("/x", 33))
}

func wildNumber(r *rand.Rand) int64 {
	return pick[int64](r, math.MinInt64, -2, -1, 0, 1, 9, 10, 1<<60, 1<<60+1, most)
}

// spoilt: some things of an object are others.
func spoilt(r *rand.Rand, o api.Object) api.Object {
	for range r.IntN(3) {
		p := &o.Parts[r.IntN(len(o.Parts))]
		switch r.IntN(7) {
		case 0:
			o.Path = wildText(r)
		case 1:
			o.Name = wildText(r)
		case 2:
			o.Priority = int(wildNumber(r))
		case 3:
			p.Name = wildText(r)
		case 4:
			*pick(r, &o.Deadline, &o.Version) = wildNumber(r)
		case 5:
			list := pick(r, &p.Requests, &p.Limits)
			*list = append(*list, api.Amount{Name: wildText(r), Value: wildNumber(r)})
		case 6:
			o.Labels = append(o.Labels, api.Label{Key: wildText(r), Value: wildText(r)})
		}
	}
	return o
}

// P20.1: of what is no object the chain's error is told.
func TestSpoiltObjects(t *testing.T) {
	r := source(4)
	seen := map[api.Errno]int{}
	for range 4000 {
		w, o := anyWorld(t, r), spoilt(r, anyAsker(r))
		if r.IntN(50) == 0 {
			o.Parts = nil
		}
		d := w.Dump()
		plan, errno := evict.Plan(w, o)
		want, wanted := planOf(t, d, o)
		if text(plan) != text(want) || errno != wanted {
			t.Fatalf("Plan(%v) = %v, %d, want %v, %d, in %v", o, plan, errno, want, wanted, d)
		}
		gone := []api.Object{spoilt(r, anyObject(r))}
		is, errno := evict.Enough(w, o, gone)
		if want, wanted := enoughOf(t, d, o, gone); is != want || errno != wanted {
			t.Fatalf("Enough(%v, %v) = %v, %d, want %v, %d, in %v", o, gone, is, errno, want, wanted, d)
		}
		seen[wanted]++
	}
	for _, errno := range []api.Errno{api.OK, api.ErrObject, api.ErrNoWay, api.ErrExists} {
		if seen[errno] < 50 {
			t.Errorf("%d was answered %d times", errno, seen[errno])
		}
	}
}
