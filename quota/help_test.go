package quota_test

import (
	"fmt"
	"maps"
	"math"
	"math/big"
	"math/rand/v2"
	"slices"
	"strings"
	"testing"

	"bursar/api"
	"bursar/ledger"
	"bursar/object"
	"bursar/quota"
)

// What follows is the chapter's words over again, by other means: what is used is reckoned from the objects, not asked of the ledger; sums are big numbers; all that refuses is told, and the first of it taken.

const most = math.MaxInt64

type line = [][]api.Quota

func names(path string) []string {
	return strings.FieldsFunc(path, func(letter rune) bool { return letter == '/' })
}

func under(path, top string) bool {
	below, above := names(path), names(top)
	return len(below) >= len(above) && slices.Equal(below[:len(above)], above)
}

func liesIn(o api.Object, s api.Scope) bool {
	best := !slices.ContainsFunc(o.Parts, func(p api.Part) bool { return len(p.Requests)+len(p.Limits) > 0 })
	switch s.Kind {
	case api.ScopeAll:
		return true
	case api.ScopeBest:
		return best
	case api.ScopeNotBest:
		return !best
	case api.ScopeEnds:
		return o.Deadline > 0
	case api.ScopeNotEnds:
		return o.Deadline == 0
	}
	return o.Priority == s.Arg
}

// listOf: those amounts of a part that a hard name is of, and their name there.
func listOf(p api.Part, hard string) ([]api.Amount, string) {
	head, resource, _ := strings.Cut(hard, ".")
	if head == "requests" {
		return p.Requests, resource
	}
	return p.Limits, resource
}

func uses(o api.Object, hard string) *big.Int {
	if hard == "count" {
		return big.NewInt(1000)
	}
	sum := new(big.Int)
	for _, p := range o.Parts {
		list, resource := listOf(p, hard)
		for _, a := range list {
			if a.Name == resource {
				sum.Add(sum, big.NewInt(a.Value))
			}
		}
	}
	return sum
}

// hardNames: all that a valid object uses some of.
func hardNames(o api.Object) []string {
	all := []string{"count"}
	for _, p := range o.Parts {
		for _, a := range p.Requests {
			all = append(all, "requests."+a.Name)
		}
		for _, a := range p.Limits {
			all = append(all, "limits."+a.Name)
		}
	}
	return all
}

func over(o api.Object) bool {
	return slices.ContainsFunc(hardNames(o), func(name string) bool { return !uses(o, name).IsInt64() })
}

// lacks: the names of the parts that don't name what a hard name is of.
func lacks(o api.Object, hard string) []string {
	var all []string
	for _, p := range o.Parts {
		list, resource := listOf(p, hard)
		if hard != "count" && !slices.ContainsFunc(list, func(a api.Amount) bool { return a.Name == resource }) {
			all = append(all, p.Name)
		}
	}
	return all
}

func shareIn(o api.Object, q api.Quota, hard string) *big.Int {
	if !liesIn(o, q.Scope) || !under(o.Path, q.Path) {
		return new(big.Int)
	}
	return uses(o, hard)
}

func usedBy(living []api.Object, q api.Quota, hard string) *big.Int {
	sum := new(big.Int)
	for _, o := range living {
		sum.Add(sum, shareIn(o, q, hard))
	}
	return sum
}

type refusal struct {
	api.Detail
	errno api.Errno
}

// refusals: all that refuses now, in order.
func refusals(living []api.Object, l line, old []api.Object, now api.Object) []refusal {
	var all []refusal
	for _, quotas := range l {
		for _, q := range quotas {
			if !liesIn(now, q.Scope) {
				continue
			}
			for _, hard := range q.Hard {
				d := api.Detail{Path: q.Path, Name: q.Name, Resource: hard.Name}
				if parts := lacks(now, hard.Name); len(parts) > 0 {
					unset := d
					unset.Part = parts[0]
					all = append(all, refusal{unset, api.ErrUnset})
				}
				sum := usedBy(living, q, hard.Name)
				for _, o := range old {
					sum.Sub(sum, shareIn(o, q, hard.Name))
				}
				if sum.Add(sum, uses(now, hard.Name)).Cmp(big.NewInt(hard.Value)) > 0 {
					all = append(all, refusal{d, api.ErrQuota})
				}
			}
		}
	}
	return all
}

func wrongObject(o api.Object) bool { return object.ValidObject(o) != api.OK }

func wrongQuota(q api.Quota) bool { return object.ValidQuota(q) != api.OK }

func wantFits(living []api.Object, l line, old []api.Object, now api.Object) (api.Detail, api.Errno) {
	if len(old) > 1 {
		return api.Detail{}, api.ErrArg
	}
	if wrongObject(now) || slices.ContainsFunc(old, wrongObject) || slices.ContainsFunc(slices.Concat(l...), wrongQuota) {
		return api.Detail{}, api.ErrObject
	}
	if over(now) || slices.ContainsFunc(old, over) {
		return api.Detail{}, api.ErrOver
	}
	if all := refusals(living, l, old, now); len(all) > 0 {
		return all[0].Detail, all[0].errno
	}
	return api.Detail{}, api.OK
}

func wantBelow(living []api.Object, q api.Quota) (api.Detail, api.Errno) {
	if wrongQuota(q) {
		return api.Detail{}, api.ErrObject
	}
	for _, hard := range q.Hard {
		if usedBy(living, q, hard.Name).Cmp(big.NewInt(hard.Value)) > 0 {
			return api.Detail{Path: q.Path, Name: q.Name, Resource: hard.Name}, api.ErrBelow
		}
	}
	return api.Detail{}, api.OK
}

func wantLines(living []api.Object, q api.Quota) []api.Line {
	var all []api.Line
	if wrongQuota(q) {
		return nil
	}
	for _, hard := range q.Hard {
		all = append(all, api.Line{Resource: hard.Name, Hard: hard.Value, Used: usedBy(living, q, hard.Name).Int64()})
	}
	return all
}

func wantLeft(living []api.Object, l line, scopes []api.Scope, resource string) int64 {
	var all []int64
	for _, q := range slices.Concat(l...) {
		if wrongQuota(q) || !slices.Contains(scopes, q.Scope) {
			continue
		}
		for _, one := range wantLines(living, q) {
			if one.Resource == resource {
				all = append(all, max(0, one.Hard-one.Used))
			}
		}
	}
	if len(all) == 0 {
		return -1
	}
	return slices.Min(all)
}

// asked holds Fits against the model.
func asked(t *testing.T, living []api.Object, l line, old []api.Object, now api.Object) (api.Detail, api.Errno) {
	t.Helper()
	d, errno := quota.Fits(charged(t, living...), l, old, now)
	if want, wantErrno := wantFits(living, l, old, now); d != want || errno != wantErrno {
		t.Fatalf("of %+v: Fits(%+v, %+v, %+v) = %+v, %d, want %+v, %d", living, l, old, now, d, errno, want, wantErrno)
	}
	return d, errno
}

// told holds the other calls against the model, and tells what Below answers of each quota.
func told(t *testing.T, living []api.Object, l line, scopes []api.Scope, resource string) []api.Errno {
	t.Helper()
	book := charged(t, living...)
	var all []api.Errno
	for _, q := range slices.Concat(l...) {
		d, errno := quota.Below(book, q)
		if want, wantErrno := wantBelow(living, q); d != want || errno != wantErrno {
			t.Fatalf("of %+v: Below(%+v) = %+v, %d, want %+v, %d", living, q, d, errno, want, wantErrno)
		}
		if lines, want := quota.Lines(book, q), wantLines(living, q); !slices.Equal(lines, want) {
			t.Fatalf("of %+v: Lines(%+v) = %+v, want %+v", living, q, lines, want)
		}
		all = append(all, errno)
	}
	if left, want := quota.Left(book, l, scopes, resource), wantLeft(living, l, scopes, resource); left != want {
		t.Fatalf("of %+v: Left(%+v, %v, %q) = %d, want %d", living, l, scopes, resource, left, want)
	}
	return all
}

// charged: a ledger with these objects.
func charged(t *testing.T, living ...api.Object) *ledger.Ledger {
	t.Helper()
	l, errno := ledger.Of(living)
	if l == nil || errno != api.OK {
		t.Fatalf("Of(%+v): %d", living, errno)
	}
	return l
}

// answers holds Fits against what is wanted, and the model against it too.
func answers(t *testing.T, living []api.Object, l line, old []api.Object, now api.Object, want api.Detail, wantErrno api.Errno) {
	t.Helper()
	if d, errno := asked(t, living, l, old, now); d != want || errno != wantErrno {
		t.Errorf("of %+v: Fits(%+v, %+v, %+v) = %+v, %d, want %+v, %d", living, l, old, now, d, errno, want, wantErrno)
	}
}

// amounts of "cpu 1 mem 2".
func amounts(text string) []api.Amount {
	var l []api.Amount
	words := strings.Fields(text)
	for i := 0; i < len(words); i += 2 {
		a := api.Amount{Name: words[i]}
		fmt.Sscan(words[i+1], &a.Value)
		l = append(l, a)
	}
	return l
}

func part(name, requests, limits string) api.Part {
	return api.Part{Name: name, Requests: amounts(requests), Limits: amounts(limits)}
}

func parts(path, name string, l ...api.Part) api.Object {
	return api.Object{Path: path, Name: name, Parts: l}
}

// asks is an object of one part "main" with these requests.
func asks(path, name, requests string) api.Object {
	return parts(path, name, part("main", requests, ""))
}

func objects(l ...api.Object) []api.Object { return l }

// hard is a quota in the scope of all.
func hard(path, name, amount string) api.Quota {
	return api.Quota{Path: path, Name: name, Hard: amounts(amount)}
}

func scoped(q api.Quota, kind, arg int) api.Quota {
	q.Scope = api.Scope{Kind: kind, Arg: arg}
	return q
}

// up is a line of one quota a namespace.
func up(l ...api.Quota) line {
	var all line
	for _, q := range l {
		all = append(all, []api.Quota{q})
	}
	return all
}

func tells(path, name, part, resource string) api.Detail {
	return api.Detail{Path: path, Name: name, Part: part, Resource: resource}
}

func source(n uint64) *rand.Rand { return rand.New(rand.NewPCG(18, n)) }

func pick[T any](r *rand.Rand, l ...T) T { return l[r.IntN(len(l))] }

var (
	paths     = []string{"/", "/a", "/a/b", "/a/b/c", "/ab", "/a-b", "/b"} // some begin alike without lying below one another
	resources = []string{"cpu", "cpu", "cpu", "mem", "count"}
	hards     = []string{"count", "requests.cpu", "requests.cpu", "limits.cpu", "requests.mem", "limits.mem", "requests.count"}
)

func anyValue(r *rand.Rand, wild bool) int64 {
	if wild && r.IntN(8) == 0 {
		return pick[int64](r, most, most-1, most/2, most/2+1, most-1000)
	}
	return pick[int64](r, 0, 1, 2, 3, 5, 10, 100, 500, r.Int64N(1000))
}

func sorted(values map[string]int64) []api.Amount {
	var l []api.Amount
	for _, name := range slices.Sorted(maps.Keys(values)) {
		l = append(l, api.Amount{Name: name, Value: values[name]})
	}
	return l
}

func anyAmounts(r *rand.Rand, wild bool) []api.Amount {
	values := map[string]int64{}
	for range pick(r, 0, 1, 1, 2, 2, 3) {
		values[pick(r, resources...)] = anyValue(r, wild)
	}
	return sorted(values)
}

// anyObject: a valid one.
func anyObject(r *rand.Rand, wild bool) api.Object {
	o := api.Object{Path: pick(r, paths...), Name: pick(r, "x", "y"), Priority: pick(r, 0, 0, 5, 9), Deadline: pick[int64](r, 0, 7), Version: pick[int64](r, 0, 9)}
	for _, name := range []string{"a", "b", "c"}[:pick(r, 1, 1, 1, 2, 3)] {
		p := api.Part{Name: name, Requests: anyAmounts(r, wild), Limits: anyAmounts(r, wild)}
		if r.IntN(6) == 0 {
			p = api.Part{Name: name}
		}
		o.Parts = append(o.Parts, p)
	}
	return o
}

func anyScope(r *rand.Rand) api.Scope {
	kind := pick(r, 0, 0, 0, 1, 2, 3, 4, 5)
	if kind == api.ScopePriority {
		return api.Scope{Kind: kind, Arg: pick(r, 0, 0, 5, 9)}
	}
	return api.Scope{Kind: kind}
}

// anyQuota: a valid one; its amounts lie about what some objects use.
func anyQuota(r *rand.Rand, wild bool) api.Quota {
	values := map[string]int64{}
	for range pick(r, 1, 1, 1, 2, 3) {
		values[pick(r, hards...)] = pick(r, anyValue(r, wild), 1000*r.Int64N(6), r.Int64N(3000), 5000)
	}
	return api.Quota{Path: pick(r, paths...), Name: pick(r, "p", "q"), Scope: anyScope(r), Hard: sorted(values)}
}

func anyLine(r *rand.Rand, wild bool) line {
	var l line
	for range pick(r, 0, 1, 1, 2, 3) {
		var quotas []api.Quota
		for range pick(r, 0, 1, 1, 2) {
			quotas = append(quotas, anyQuota(r, wild))
		}
		l = append(l, quotas)
	}
	return l
}

// anyLiving: valid objects whose sums are no greater than may be.
func anyLiving(r *rand.Rand, wild bool) []api.Object {
	book := ledger.New()
	var living []api.Object
	for range r.IntN(6) {
		if o := anyObject(r, wild); book.Charge(o) == api.OK {
			living = append(living, o)
		}
	}
	return living
}

// anyOld: none, or one of the living; of none is it asked whether it lives, so seldom another.
func anyOld(r *rand.Rand, living []api.Object, wild bool) []api.Object {
	if wild && r.IntN(4) == 0 {
		return objects(anyObject(r, wild))
	}
	if len(living) == 0 || r.IntN(2) == 0 {
		return nil
	}
	return objects(pick(r, living...))
}

// lineAt: those quotas that stand at a path or above it, one namespace behind the other.
func lineAt(quotas []api.Quota, path string) line {
	var l line
	for n := len(names(path)); n >= 0; n-- {
		top := "/" + strings.Join(names(path)[:n], "/")
		l = append(l, slices.DeleteFunc(slices.Clone(quotas), func(q api.Quota) bool { return q.Path != top }))
	}
	return l
}

func scopesOf(o api.Object) []api.Scope {
	var all []api.Scope
	for kind := range 5 {
		if s := (api.Scope{Kind: kind}); liesIn(o, s) {
			all = append(all, s)
		}
	}
	return append(all, api.Scope{Kind: api.ScopePriority, Arg: o.Priority})
}

// copied shares no memory with o.
func copied(o api.Object) api.Object {
	o.Parts = slices.Clone(o.Parts)
	for i, p := range o.Parts {
		o.Parts[i].Requests, o.Parts[i].Limits = slices.Clone(p.Requests), slices.Clone(p.Limits)
	}
	return o
}
