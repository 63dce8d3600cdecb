package evict_test

import (
	"fmt"
	"math/big"
	"math/rand/v2"
	"slices"
	"strings"
	"testing"

	"bursar/admit"
	"bursar/api"
	"bursar/evict"
	"bursar/limits"
	"bursar/object"
)

const most = api.MaxAmount

func source(n uint64) *rand.Rand { return rand.New(rand.NewPCG(20, n)) }

func pick[T any](r *rand.Rand, l ...T) T { return l[r.IntN(len(l))] }

// amounts: name, value, name, value ..
func amounts(l ...any) []api.Amount {
	var list []api.Amount
	for i := 0; i < len(l); i += 2 {
		value, small := l[i+1].(int)
		wide := int64(value)
		if !small {
			wide = l[i+1].(int64)
		}
		list = append(list, api.Amount{Name: l[i].(string), Value: wide})
	}
	return list
}

// obj: an object of one part with these requests.
func obj(path, name string, priority int, requests ...any) api.Object {
	return api.Object{Path: path, Name: name, Priority: priority, Parts: []api.Part{{Name: "main", Requests: amounts(requests...)}}}
}

func ending(o api.Object) api.Object {
	o.Deadline = 7
	return o
}

func hard(path, name string, kind int, l ...any) api.Quota {
	return api.Quota{Path: path, Name: name, Scope: api.Scope{Kind: kind}, Hard: amounts(l...)}
}

// world: the objects have the versions 1, 2, 3 ..; the quotas come behind them, so that an object need not say what they name.
func world(t *testing.T, quotas []api.Quota, objects ...api.Object) *admit.World {
	t.Helper()
	w := admit.New()
	for _, path := range []string{"/a", "/a/b", "/a-b", "/b"} {
		if errno := w.AddNode(path); errno != api.OK {
			t.Fatalf("AddNode(%s): %d", path, errno)
		}
	}
	for i, o := range objects {
		if _, detail, errno := w.Create(o, int64(i+1)); errno != api.OK {
			t.Fatalf("Create(%v): %v, %d", o, detail, errno)
		}
	}
	for _, q := range quotas {
		if detail, errno := w.SetQuota(q); errno != api.OK {
			t.Fatalf("SetQuota(%v): %v, %d", q, detail, errno)
		}
	}
	return w
}

func namesOf(l []api.Object) string {
	var names []string
	for _, o := range l {
		names = append(names, o.Name)
	}
	return strings.Join(names, " ")
}

// planned asks for a plan, and whether the world is as it was.
func planned(t *testing.T, w *admit.World, o api.Object, want string, wanted api.Errno) []api.Object {
	t.Helper()
	before := fmt.Sprint(w.Dump())
	plan, errno := evict.Plan(w, o)
	if namesOf(plan) != want || errno != wanted {
		t.Errorf("Plan(%.200v) = %q, %d, want %q, %d", fmt.Sprint(o), namesOf(plan), errno, want, wanted)
	}
	if fmt.Sprint(w.Dump()) != before {
		t.Errorf("Plan(%v) has changed the world", o)
	}
	return plan
}

func enough(t *testing.T, w *admit.World, o api.Object, want bool, wanted api.Errno, gone ...api.Object) {
	t.Helper()
	before := fmt.Sprint(w.Dump())
	is, errno := evict.Enough(w, o, gone)
	if is != want || errno != wanted {
		t.Errorf("Enough(%v, %v) = %v, %d, want %v, %d", o, gone, is, errno, want, wanted)
	}
	if fmt.Sprint(w.Dump()) != before {
		t.Errorf("Enough(%v, %v) has changed the world", o, gone)
	}
}

// What follows is the chapter's words over again, by other means: what a world without some objects says is asked of a world that is made without them, sums are big numbers.

func same(a, b api.Object) bool { return a.Path == b.Path && a.Name == b.Name }

func contains(l []api.Object, o api.Object) bool {
	return slices.ContainsFunc(l, func(other api.Object) bool { return same(o, other) })
}

func without(l, gone []api.Object) []api.Object {
	var rest []api.Object
	for _, o := range l {
		if !contains(gone, o) {
			rest = append(rest, o)
		}
	}
	return rest
}

func worldOf(t *testing.T, d api.Dump, gone []api.Object) *admit.World {
	t.Helper()
	d.Objects = without(d.Objects, gone)
	w, errno := admit.Of(d)
	if errno != api.OK {
		t.Fatalf("Of(%v): %d", d, errno)
	}
	return w
}

// judgedIn: what Create would tell of o in the world of d without some objects.
func judgedIn(t *testing.T, d api.Dump, gone []api.Object, o api.Object) api.Errno {
	t.Helper()
	_, _, errno := worldOf(t, d, gone).Create(o, 0)
	return errno
}

func names(path string) []string {
	return strings.FieldsFunc(path, func(letter rune) bool { return letter == '/' })
}

func under(path, top string) bool {
	below, above := names(path), names(top)
	return len(below) >= len(above) && slices.Equal(below[:len(above)], above)
}

func liesIn(o api.Object, s api.Scope) bool {
	best := !slices.ContainsFunc(o.Parts, func(p api.Part) bool { return len(p.Requests)+len(p.Limits) > 0 })
	switch s.Kind {
	case api.ScopeAll:
		return true
	case api.ScopeBest:
		return best
	case api.ScopeNotBest:
		return !best
	case api.ScopeEnds:
		return o.Deadline > 0
	case api.ScopeNotEnds:
		return o.Deadline == 0
	}
	return o.Priority == s.Arg
}

// use: what an object uses of a hard name.
func use(o api.Object, name string) *big.Int {
	if name == "count" {
		return big.NewInt(1000)
	}
	sum := new(big.Int)
	for _, p := range o.Parts {
		for _, a := range p.Requests {
			if "requests."+a.Name == name {
				sum.Add(sum, big.NewInt(a.Value))
			}
		}
		for _, a := range p.Limits {
			if "limits."+a.Name == name {
				sum.Add(sum, big.NewInt(a.Value))
			}
		}
	}
	return sum
}

func share(o api.Object, q api.Quota, name string) *big.Int {
	if !liesIn(o, q.Scope) || !under(o.Path, q.Path) {
		return new(big.Int)
	}
	return use(o, name)
}

// becomes: o behind the chain's third link.
func becomes(t *testing.T, d api.Dump, o api.Object) api.Object {
	t.Helper()
	normal, errno := object.Normal(o)
	if errno != api.OK {
		t.Fatalf("Normal(%v): %d", o, errno)
	}
	var line [][]api.LimitRange
	for _, l := range slices.Backward(d.Limits) {
		if under(o.Path, l.Path) {
			line = append(line, []api.LimitRange{l})
		}
	}
	slices.SortStableFunc(line, func(a, b []api.LimitRange) int {
		if deeper := len(names(b[0].Path)) - len(names(a[0].Path)); deeper != 0 {
			return deeper
		}
		return strings.Compare(a[0].Name, b[0].Name)
	})
	full, _, errno := limits.Admit(normal, line)
	if errno != api.OK {
		t.Fatalf("Admit(%v): %d", o, errno)
	}
	full.Version = 0
	return full
}

// isCandidate: full is what the object that asks for room becomes.
func isCandidate(d api.Dump, full, candidate api.Object) bool {
	if candidate.Priority >= full.Priority {
		return false
	}
	for _, q := range d.Quotas {
		if !under(full.Path, q.Path) || !liesIn(full, q.Scope) {
			continue
		}
		for _, h := range q.Hard {
			sum := use(full, h.Name)
			for _, o := range d.Objects {
				sum.Add(sum, share(o, q, h.Name))
			}
			if big.NewInt(h.Value).Cmp(sum) < 0 && share(candidate, q, h.Name).Sign() > 0 {
				return true
			}
		}
	}
	return false
}

func candidatesFor(t *testing.T, d api.Dump, o api.Object) []api.Object {
	t.Helper()
	full := becomes(t, d, o)
	var list []api.Object
	for _, c := range d.Objects {
		if isCandidate(d, full, c) {
			list = append(list, c)
		}
	}
	return ordered(list)
}

func goesAhead(a, b api.Object) bool {
	if a.Priority != b.Priority {
		return a.Priority < b.Priority
	}
	if a.Version != b.Version {
		return a.Version > b.Version
	}
	if a.Path != b.Path {
		return a.Path < b.Path
	}
	return a.Name < b.Name
}

// ordered lays one after the other ahead of the first that goes behind it.
func ordered(l []api.Object) []api.Object {
	var list []api.Object
	for _, o := range l {
		at := 0
		for at < len(list) && !goesAhead(o, list[at]) {
			at++
		}
		list = slices.Insert(list, at, o)
	}
	return list
}

// planOf: the plan by the chapter's words.
func planOf(t *testing.T, d api.Dump, o api.Object) ([]api.Object, api.Errno) {
	t.Helper()
	errno := judgedIn(t, d, nil, o)
	if errno != api.ErrQuota {
		return nil, errno
	}
	var taken []api.Object
	for _, c := range candidatesFor(t, d, o) {
		taken = append(taken, c)
		if errno = judgedIn(t, d, taken, o); errno == api.OK {
			break
		}
	}
	if errno == api.ErrQuota {
		return nil, api.ErrNoWay
	}
	if errno != api.OK {
		return nil, errno
	}
	for i := len(taken) - 1; i >= 0; i-- {
		others := slices.Concat(taken[:i], taken[i+1:])
		if judgedIn(t, d, others, o) == api.OK {
			taken = others
		}
	}
	if len(taken) > api.MaxPlan {
		return nil, api.ErrNoWay
	}
	return taken, api.OK
}

// text tells objects so that nil and empty lists are the same.
func text(l []api.Object) string {
	all := ""
	for _, o := range l {
		all += fmt.Sprintf("%q\n", fmt.Sprint(o))
	}
	return all
}
