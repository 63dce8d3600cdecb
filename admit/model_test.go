package admit_test

import (
	"maps"
	"math"
	"math/big"
	"math/rand/v2"
	"slices"
	"strings"
	"testing"

	"bursar/admit"
	"bursar/api"
	"bursar/label"
	"bursar/limits"
	"bursar/object"
	"bursar/scope"
)

func source(n uint64) *rand.Rand { return rand.New(rand.NewPCG(19, n)) }

func pick[T any](r *rand.Rand, l ...T) T { return l[r.IntN(len(l))] }

var (
	paths     = []string{"/", "/a", "/a/b", "/a/b/c", "/ab", "/a-b", "/b"} // some begin alike without lying below one another
	resources = []string{"cpu", "cpu", "cpu", "mem", "count"}
	hards     = []string{"count", "requests.cpu", "requests.cpu", "limits.cpu", "requests.mem", "limits.mem", "requests.count"}
)

func anyValue(r *rand.Rand) int64 {
	if r.IntN(25) == 0 {
		return pick[int64](r, most, most-1, most/2, most/2+1, most-1000)
	}
	return pick[int64](r, 0, 1, 2, 3, 5, 10, 100, 500, r.Int64N(1000))
}

func sorted(values map[string]int64) []api.Amount {
	var l []api.Amount
	for _, name := range slices.Sorted(maps.Keys(values)) {
		l = append(l, api.Amount{Name: name, Value: values[name]})
	}
	return l
}

// anyAmounts: in any order, a name now and then twice.
func anyAmounts(r *rand.Rand) []api.Amount {
	var l []api.Amount
	for range pick(r, 0, 1, 1, 2, 3) {
		l = append(l, api.Amount{Name: pick(r, resources...), Value: anyValue(r)})
	}
	return l
}

func anyName(r *rand.Rand) string { return pick(r, "x", "y", "z", "x-1") }

// anyObject: one whose form Normal takes.
func anyObject(r *rand.Rand) api.Object {
	o := api.Object{Path: pick(r, paths...), Name: anyName(r), Priority: pick(r, 0, 0, 5, 9), Deadline: pick[int64](r, 0, 0, 7), Version: pick[int64](r, 0, 9)}
	for range r.IntN(3) {
		o.Labels = append(o.Labels, api.Label{Key: pick(r, "k", "l", "m", "n"), Value: pick(r, "", "v", "w")})
	}
	o.Labels = slices.CompactFunc(o.Labels, func(a, b api.Label) bool { return a.Key == b.Key })
	names := []string{"a", "b", "c"}
	r.Shuffle(3, func(i, j int) { names[i], names[j] = names[j], names[i] })
	for _, name := range names[:pick(r, 1, 1, 1, 2, 3)] {
		p := api.Part{Name: name, Requests: anyAmounts(r), Limits: anyAmounts(r)}
		if r.IntN(3) == 0 {
			p.Limits = nil
		}
		if r.IntN(6) == 0 {
			p = api.Part{Name: name}
		}
		o.Parts = append(o.Parts, p)
	}
	return o
}

func anyScope(r *rand.Rand) api.Scope {
	kind := pick(r, 0, 0, 0, 1, 2, 3, 4, 5)
	if kind == api.ScopePriority {
		return api.Scope{Kind: kind, Arg: pick(r, 0, 0, 5, 9)}
	}
	return api.Scope{Kind: kind}
}

func anyQuota(r *rand.Rand) api.Quota {
	values := map[string]int64{}
	for range pick(r, 1, 1, 1, 2, 3) {
		values[pick(r, hards...)] = pick(r, anyValue(r), 1000*r.Int64N(6), r.Int64N(3000), 5000, most)
	}
	return api.Quota{Path: pick(r, paths...), Name: anyName(r), Scope: anyScope(r), Hard: sorted(values)}
}

// tight: a quota that lets little more than what is used.
func tight(r *rand.Rand, p *paper) api.Quota {
	q := anyQuota(r)
	for i, a := range q.Hard {
		q.Hard[i].Value = min(used(p.objects, q.Path, q.Scope, a.Name).Int64(), most-5000) + pick[int64](r, 0, 0, 1, 500, 1000, 2000)
	}
	return q
}

func anyRange(r *rand.Rand) api.LimitRange {
	l := api.LimitRange{Path: pick(r, paths...), Name: anyName(r)}
	for _, name := range []string{"count", "cpu", "mem"} {
		if r.IntN(2) == 0 {
			continue
		}
		l.Rules = append(l.Rules, api.Rule{
			Resource: name, Min: pick[int64](r, off, off, 0, 2, 10), Max: pick[int64](r, off, off, off, 100, 1000, most),
			Default: pick[int64](r, off, off, 10, 500), Request: pick[int64](r, off, off, 1, 10), Ratio: pick[int64](r, off, off, off, 1000, 2000, 100000),
		})
	}
	if len(l.Rules) == 0 {
		l.Rules = []api.Rule{{Resource: "cpu", Min: off, Max: off, Default: off, Request: 3, Ratio: off}}
	}
	return l
}

func wildText(r *rand.Rand) string {
	return pick(r, "/", "/a", "x", "cpu", "count", "requests.cpu", "", "?", "A", "a/b", "/a x", "\x00", "\xff", strings.Repeat("x", 33), strings.Repeat("/x", 33))
}

func wildNumber(r *rand.Rand) int64 {
	return pick[int64](r, math.MinInt64, -2, -1, 0, 1, 9, 10, 1<<60, 1<<60+1, most)
}

// spoilt: one thing of an object is another.
func spoilt(r *rand.Rand, o api.Object) api.Object {
	o = copied(o)
	p := &o.Parts[r.IntN(len(o.Parts))]
	switch r.IntN(7) {
	case 0:
		o.Path = wildText(r)
	case 1:
		o.Name = wildText(r)
	case 2:
		o.Priority = int(wildNumber(r))
	case 3:
		p.Name = wildText(r)
	case 4:
		*pick(r, &o.Deadline, &o.Version) = wildNumber(r)
	case 5:
		list := pick(r, &p.Requests, &p.Limits)
		*list = append(*list, api.Amount{Name: wildText(r), Value: wildNumber(r)})
	case 6:
		o.Labels = append(o.Labels, api.Label{Key: wildText(r), Value: wildText(r)})
	}
	return o
}

func spoiltQuota(r *rand.Rand, q api.Quota) api.Quota {
	q.Hard = slices.Clone(q.Hard)
	a := &q.Hard[r.IntN(len(q.Hard))]
	*pick(r, &q.Path, &q.Name, &a.Name) = wildText(r)
	if r.IntN(2) == 0 {
		a.Value, q.Scope.Arg = wildNumber(r), int(wildNumber(r))
	}
	return q
}

func spoiltRange(r *rand.Rand, l api.LimitRange) api.LimitRange {
	l.Rules = slices.Clone(l.Rules)
	rule := &l.Rules[r.IntN(len(l.Rules))]
	*pick(r, &l.Path, &l.Name, &rule.Resource) = wildText(r)
	*pick(r, &rule.Min, &rule.Max, &rule.Default, &rule.Request, &rule.Ratio) = wildNumber(r)
	return l
}

// seldom: mostly the first.
func seldom[T any](r *rand.Rand, often, other T) T {
	if r.IntN(12) == 0 {
		return other
	}
	return often
}

func anyTerms(r *rand.Rand) []api.Term {
	var l []api.Term
	for range pick(r, 0, 0, 1, 2) {
		term := api.Term{Key: pick(r, "k", "l", "m"), How: r.IntN(4)}
		if term.How == api.Is || term.How == api.IsNot {
			term.Values = pick(r, []string{"v"}, []string{""}, []string{"v", "w"})
		}
		l = append(l, seldom(r, term, api.Term{Key: wildText(r), How: int(wildNumber(r))}))
	}
	return l
}

// place: mostly that of an object that is there.
func place(r *rand.Rand, p *paper) (string, string, int64) {
	if len(p.objects) > 0 && r.IntN(4) > 0 {
		o := pick(r, p.objects...)
		return o.Path, o.Name, pick(r, 0, o.Version, o.Version, o.Version+1, seldom(r, o.Version, wildNumber(r)))
	}
	return seldom(r, pick(r, paths...), wildText(r)), seldom(r, anyName(r), wildText(r)), pick[int64](r, 0, 0, 1, seldom(r, 0, wildNumber(r)))
}

// look asks one of those that change nothing.
func look(r *rand.Rand, b *both) {
	b.t.Helper()
	path, name, _ := place(r, b.paper)
	switch r.IntN(4) {
	case 0:
		b.get(path, name)
	case 1:
		if len(b.paper.quotas) > 0 && r.IntN(3) > 0 {
			q := pick(r, b.paper.quotas...)
			path, name = q.Path, q.Name
		}
		b.status(path, name)
	default:
		deep := r.IntN(2) == 0
		from := pick(r, "", name, wildText(r))
		if deep {
			from = pick(r, "", path+" "+name, path+" "+name, wildText(r))
		}
		b.list(seldom(r, pick(r, paths...), wildText(r)), deep, anyTerms(r), from, pick(r, 1, 2, 3, 100, int(seldom(r, 1, wildNumber(r)))))
	}
}

// govern sets or drops a namespace, a quota or a limit range.
func govern(r *rand.Rand, b *both) {
	b.t.Helper()
	path := seldom(r, pick(r, paths...), wildText(r))
	switch r.IntN(9) {
	case 0, 1:
		b.addNode(path)
	case 2:
		b.dropNode(path)
	case 3, 4:
		q := pick(r, anyQuota(r), tight(r, b.paper))
		b.setQuota(seldom(r, q, spoiltQuota(r, q)))
	case 5, 6:
		l := anyRange(r)
		b.setLimit(seldom(r, l, spoiltRange(r, l)))
	case 7:
		if len(b.paper.quotas) > 0 && r.IntN(3) > 0 {
			q := pick(r, b.paper.quotas...)
			b.dropQuota(q.Path, q.Name)
			return
		}
		b.dropQuota(path, anyName(r))
	case 8:
		if len(b.paper.ranges) > 0 && r.IntN(3) > 0 {
			l := pick(r, b.paper.ranges...)
			b.dropLimit(l.Path, l.Name)
			return
		}
		b.dropLimit(path, anyName(r))
	}
}

// step does any one call.
func step(r *rand.Rand, b *both, version int64) {
	b.t.Helper()
	path, name, must := place(r, b.paper)
	o := anyObject(r)
	o = seldom(r, o, spoilt(r, o))
	switch r.IntN(12) {
	case 0, 1, 2:
		look(r, b)
	case 3, 4:
		govern(r, b)
	case 5, 6, 7:
		b.create(o, seldom(r, version, wildNumber(r)))
	case 8, 9:
		o.Path, o.Name = path, name
		b.update(o, seldom(r, version, wildNumber(r)), must)
	case 10:
		b.remove(path, name, must)
	case 11:
		b.try(o, r.IntN(2) == 0, seldom(r, version, wildNumber(r)), must)
	}
}

// begun: a world with most of the paths.
func begun(t *testing.T, r *rand.Rand) *both {
	t.Helper()
	b := newBoth(t)
	for _, path := range paths[1:] {
		if r.IntN(8) > 0 {
			b.addNode(path)
		}
	}
	return b
}

// P19.1, P19.5: any calls in any order are what the chapter's words say, and each of their answers comes often. (Each call is held against the paper, and the Dump behind it.)
func TestAnyCalls(t *testing.T) {
	seen := map[api.Errno]int{}
	for seed := range uint64(240) {
		r := source(1000 + seed)
		b := begun(t, r)
		b.seen = seen
		for version := range int64(80) {
			step(r, b, version)
		}
	}
	for _, errno := range []api.Errno{
		api.OK, api.ErrArg, api.ErrObject, api.ErrPath, api.ErrTerm, api.ErrNode, api.ErrNoNode, api.ErrChildren, api.ErrRoot, api.ErrFull,
		api.ErrExists, api.ErrMissing, api.ErrConflict, api.ErrMin, api.ErrMax, api.ErrAsk, api.ErrRatio, api.ErrNoCap, api.ErrOver, api.ErrUnset, api.ErrQuota, api.ErrBelow,
	} {
		if seen[errno] < 20 {
			t.Errorf("%d was answered %d times", errno, seen[errno])
		}
	}
}

// anyWorld: behind some calls. (Of these each Dump is looked at elsewhere.)
func anyWorld(t *testing.T, r *rand.Rand, calls int) *both {
	t.Helper()
	b := begun(t, r)
	b.loose = true
	for version := range int64(calls) {
		if r.IntN(3) == 0 {
			govern(r, b)
			continue
		}
		o := anyObject(r)
		if there := b.paper.find(o.Path, o.Name); len(there) > 0 {
			b.update(o, version, 0)
			continue
		}
		b.create(o, version)
	}
	b.loose = false
	return b
}

// P19.2: each sum is that of scope.Uses over the objects that scope.In and label.Under tell, whoever asks.
func TestTheLedgerIsTheSum(t *testing.T) {
	sums, lines := 0, 0
	for seed := range uint64(60) {
		b := anyWorld(t, source(2000+seed), 40)
		d := b.world.Dump()
		total := func(path string, s api.Scope, name string) int64 {
			sum := int64(0)
			for _, o := range d.Objects {
				if !scope.In(o, s) || !label.Under(o.Path, path) {
					continue
				}
				uses, _ := scope.Uses(o)
				for _, a := range uses {
					if a.Name == name {
						sum += a.Value
					}
				}
			}
			return sum
		}
		told := map[api.Use]int64{}
		for _, u := range d.Uses {
			at := u
			at.Value = 0
			told[at] = u.Value
		}
		for _, path := range append(slices.Clone(paths), "/zz") {
			for _, s := range allScopes() {
				for _, name := range append(slices.Clone(hards), "limits.count") {
					if sum := total(path, s, name); sum != told[api.Use{Path: path, Scope: s, Resource: name}] {
						t.Fatalf("seed %d: %s %v %s: Uses tell %d, want %d", seed, path, s, name, told[api.Use{Path: path, Scope: s, Resource: name}], sum)
					} else if sum > 0 {
						sums++
					}
				}
			}
		}
		for _, q := range d.Quotas {
			l, _ := b.world.Status(q.Path, q.Name)
			for i, a := range q.Hard {
				if l[i] != (api.Line{Resource: a.Name, Hard: a.Value, Used: total(q.Path, q.Scope, a.Name)}) {
					t.Fatalf("seed %d: Status(%q, %q) = %+v", seed, q.Path, q.Name, l)
				}
				lines++
			}
		}
	}
	if sums < 5000 || lines < 100 {
		t.Errorf("%d sums, %d lines", sums, lines)
	}
}

// small: an object that names cpu, little of it.
func small(r *rand.Rand) api.Object {
	o := parts(pick(r, paths...), anyName(r), api.Part{Name: "a", Requests: []api.Amount{{Name: "cpu", Value: r.Int64N(4)}}})
	o.Priority, o.Deadline = pick(r, 0, 5), pick[int64](r, 0, 7)
	return o
}

// P19.3: nothing is used above a quota, behind whatever calls; many quotas are used up to the brim.
func TestNothingAboveAQuota(t *testing.T) {
	brim := 0
	for seed := range uint64(90) {
		r := source(3000 + seed)
		b := begun(t, r)
		for range 6 {
			q := hard(pick(r, paths...), anyName(r), pick(r, "requests.cpu 3", "requests.cpu 5", "count 2000 requests.cpu 4", "count 1000"))
			q.Scope = anyScope(r)
			b.setQuota(q)
		}
		for version := range int64(60) {
			o := small(r)
			switch r.IntN(4) {
			case 0, 1:
				b.create(o, version)
			case 2:
				o.Path, o.Name, _ = place(r, b.paper)
				b.update(o, version, 0)
			case 3:
				step(r, b, version)
			}
			brim += full(t, b.world.Dump())
		}
	}
	if brim < 1000 {
		t.Errorf("full to the brim: %d", brim)
	}
}

// full: how many amounts are used up, of those that aren't 0; none may be passed.
func full(t *testing.T, d api.Dump) int {
	t.Helper()
	n := 0
	for _, q := range d.Quotas {
		for _, a := range q.Hard {
			order := used(d.Objects, q.Path, q.Scope, a.Name).Cmp(big.NewInt(a.Value))
			if order > 0 {
				t.Fatalf("above %+v: %+v", q, d.Objects)
			}
			if order == 0 && a.Value > 0 {
				n++
			}
		}
	}
	return n
}

// P19.4: what comes to the sixth link is refused there just if some amount isn't named or would be passed; what is stored is just what limits.Admit tells.
func TestJust(t *testing.T) {
	refused, taken := 0, 0
	for seed := range uint64(150) {
		r := source(4000 + seed)
		b := anyWorld(t, r, 25)
		for range 20 {
			o := anyObject(r)
			d := b.world.Dump()
			old, there := b.world.Get(o.Path, o.Name)
			full, come := comes(d, o)
			if !come {
				continue
			}
			told, _, errno := b.world.Try(o, there == api.OK, 5, 0)
			want := refusedBy(d, old, full)
			if got := errno == api.ErrUnset || errno == api.ErrQuota; got != want {
				t.Fatalf("seed %d: %+v in %+v: %d, want refused: %v", seed, o, d, errno, want)
			}
			if want {
				refused++
			}
			if full.Version = 5; errno == api.OK {
				taken++
				if !same(told, full) {
					t.Fatalf("seed %d: %+v became %+v, want %+v", seed, o, told, full)
				}
			}
		}
	}
	if refused < 100 || taken < 100 {
		t.Errorf("%d were refused, %d taken", refused, taken)
	}
}

// comes tells whether an object comes to the sixth link, and as what.
func comes(d api.Dump, o api.Object) (api.Object, bool) {
	normal, errno := object.Normal(o)
	if errno != api.OK || !slices.Contains(d.Nodes, o.Path) {
		return o, false
	}
	full, _, errno := limits.Admit(normal, (&paper{ranges: d.Limits}).rangesOf(o.Path))
	if errno != api.OK {
		return o, false
	}
	_, errno = scope.Uses(full)
	return full, errno == api.OK
}

// refusedBy: whether some quota above an object, in whose scope it lies, has an amount that a part doesn't name, or that would be passed with it among the others.
func refusedBy(d api.Dump, old, o api.Object) bool {
	others := only(d.Objects, func(other api.Object) bool { return other.Path != old.Path || other.Name != old.Name })
	return slices.ContainsFunc(d.Quotas, func(q api.Quota) bool {
		return under(o.Path, q.Path) && liesIn(o, q.Scope) && slices.ContainsFunc(q.Hard, func(a api.Amount) bool {
			return lacking(o, a.Name) != "" || used(append(slices.Clone(others), o), q.Path, q.Scope, a.Name).Cmp(big.NewInt(a.Value)) > 0
		})
	})
}

// P19.6: Of(Dump()) is the same world: it tells the same, and does the same from then on.
func TestThereAndBack(t *testing.T) {
	for seed := range uint64(80) {
		r := source(5000 + seed)
		b := anyWorld(t, r, 30)
		d := b.world.Dump()
		for _, l := range []func(){
			func() { r.Shuffle(len(d.Nodes), func(i, j int) { d.Nodes[i], d.Nodes[j] = d.Nodes[j], d.Nodes[i] }) },
			func() {
				r.Shuffle(len(d.Quotas), func(i, j int) { d.Quotas[i], d.Quotas[j] = d.Quotas[j], d.Quotas[i] })
			},
			func() {
				r.Shuffle(len(d.Limits), func(i, j int) { d.Limits[i], d.Limits[j] = d.Limits[j], d.Limits[i] })
			},
			func() {
				r.Shuffle(len(d.Objects), func(i, j int) { d.Objects[i], d.Objects[j] = d.Objects[j], d.Objects[i] })
			},
		} {
			if r.IntN(2) == 0 {
				l()
			}
		}
		again, errno := admit.Of(d)
		if errno != api.OK || !sameDump(again.Dump(), b.world.Dump()) {
			t.Fatalf("seed %d: Of(%+v): %d", seed, d, errno)
		}
		was := b.world
		before := was.Dump()
		b.world = again
		for version := range int64(20) {
			step(r, b, 100+version)
		}
		if !sameDump(was.Dump(), before) {
			t.Fatalf("seed %d: one world's calls changed another", seed)
		}
	}
}

// P19.6: Delete of what Create laid down, and Update with what is stored, leave all as it was.
func TestUndone(t *testing.T) {
	created, updated := 0, 0
	for seed := range uint64(100) {
		r := source(6000 + seed)
		b := anyWorld(t, r, 25)
		before := b.world.Dump()
		for range 20 {
			o := anyObject(r)
			stored, _, errno := b.world.Create(o, 77)
			if errno != api.OK {
				continue
			}
			created++
			behind := b.world.Dump()
			again, d, errno := b.world.Update(stored, stored.Version, pick(r, 0, stored.Version))
			if errno != api.OK || d != none || !same(again, stored) || !sameDump(b.world.Dump(), behind) {
				t.Fatalf("seed %d: Update with %+v, which is stored: %+v, %+v, %d", seed, stored, again, d, errno)
			}
			updated++
			gone, errno := b.world.Delete(o.Path, o.Name, pick[int64](r, 0, 77))
			if errno != api.OK || !same(gone, stored) || !sameDump(b.world.Dump(), before) {
				t.Fatalf("seed %d: Delete of %+v: %+v, %d", seed, stored, gone, errno)
			}
		}
	}
	if created < 100 || updated < 100 {
		t.Errorf("%d created, %d updated", created, updated)
	}
}

// spoiltDump: something of a dump is another, stands twice or is missing.
func spoiltDump(r *rand.Rand, d api.Dump) api.Dump {
	any := func(n int) int { return r.IntN(max(n, 1)) }
	switch r.IntN(11) {
	case 0:
		d.Nodes = append(d.Nodes, pick(r, wildText(r), pick(r, paths...)))
	case 1:
		at := any(len(d.Nodes))
		d.Nodes = slices.Delete(d.Nodes, at, at+1)
	case 2:
		q := anyQuota(r)
		d.Quotas = slices.Insert(d.Quotas, any(len(d.Quotas)), pick(r, q, spoiltQuota(r, q)))
	case 3:
		d.Quotas = append(d.Quotas, d.Quotas...)
	case 4:
		l := anyRange(r)
		d.Limits = slices.Insert(d.Limits, any(len(d.Limits)), pick(r, l, spoiltRange(r, l)))
	case 5:
		d.Limits = append(d.Limits, d.Limits...)
	case 6, 7:
		o := anyObject(r)
		normal, _ := object.Normal(o)
		d.Objects = slices.Insert(d.Objects, any(len(d.Objects)), pick(r, o, normal, normal, spoilt(r, o)))
	case 8:
		d.Objects = append(d.Objects, d.Objects...)
	case 9:
		for range 2 {
			d.Objects = append(d.Objects, asks(pick(r, paths...), anyName(r), "cpu 9223372036854775000"))
		}
	case 10:
		for i := range d.Quotas {
			for k := range d.Quotas[i].Hard {
				d.Quotas[i].Hard[k].Value = max(0, d.Quotas[i].Hard[k].Value-pick[int64](r, 0, 1, 500, 1000))
			}
		}
	}
	return d
}

func TestOfSpoiltDumps(t *testing.T) {
	seen := map[api.Errno]int{}
	for seed := range uint64(60) {
		r := source(7000 + seed)
		b := anyWorld(t, r, 25)
		for range 20 {
			d := b.world.Dump()
			for range 1 + r.IntN(2) {
				d = spoiltDump(r, d)
			}
			_, want := paperOf(d)
			ofIs(t, d, want)
			seen[want]++
		}
	}
	for _, errno := range []api.Errno{api.OK, api.ErrPath, api.ErrNode, api.ErrNoNode, api.ErrObject, api.ErrExists, api.ErrOver, api.ErrBelow} {
		if seen[errno] < 10 {
			t.Errorf("%d was answered %d times", errno, seen[errno])
		}
	}
}
