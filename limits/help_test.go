package limits_test

import (
	"fmt"
	"maps"
	"math"
	"math/big"
	"math/rand/v2"
	"reflect"
	"slices"
	"strings"
	"testing"

	"bursar/api"
	"bursar/limits"
	"bursar/object"
)

// What follows is the chapter's words over again, by other means: each question asks the whole line anew, amounts lie in maps, products are big numbers.

const (
	most = math.MaxInt64
	off  = -1 // not set, or missing
)

type line = [][]api.LimitRange

// named: a rule, and whose it is.
type named struct {
	api.Rule
	from api.LimitRange
}

// rulesFor: the rules of a line for a resource, in the line's order.
func rulesFor(l line, resource string) []named {
	var found []named
	for _, ranges := range l {
		for _, one := range ranges {
			for _, r := range one.Rules {
				if r.Resource == resource {
					found = append(found, named{r, one})
				}
			}
		}
	}
	return found
}

// lineResources: what a line has rules for, rising.
func lineResources(l line) []string {
	names := map[string]struct{}{}
	for _, ranges := range l {
		for _, one := range ranges {
			for _, r := range one.Rules {
				names[r.Resource] = struct{}{}
			}
		}
	}
	return slices.Sorted(maps.Keys(names))
}

func resourcesOf(p api.Part, l line) []string {
	names := lineResources(l)
	for name := range valuesOf(p.Requests) {
		names = append(names, name)
	}
	for name := range valuesOf(p.Limits) {
		names = append(names, name)
	}
	slices.Sort(names)
	return slices.Compact(names)
}

func valuesOf(l []api.Amount) map[string]int64 {
	values := map[string]int64{}
	for _, a := range l {
		values[a.Name] = a.Value
	}
	return values
}

func amountsOf(values map[string]int64) []api.Amount {
	var l []api.Amount
	for _, name := range slices.Sorted(maps.Keys(values)) {
		l = append(l, api.Amount{Name: name, Value: values[name]})
	}
	return l
}

func allValid(l line) bool {
	for _, ranges := range l {
		for _, one := range ranges {
			if object.ValidLimit(one) != api.OK {
				return false
			}
		}
	}
	return true
}

// firstSet: the first of a number that is set in some rules.
func firstSet(l []named, number func(named) int64) (int64, bool) {
	for _, r := range l {
		if number(r) != off {
			return number(r), true
		}
	}
	return 0, false
}

func wantDefault(o api.Object, l line) (api.Object, api.Errno) {
	if object.ValidObject(o) != api.OK || !allValid(l) {
		return api.Object{}, api.ErrObject
	}
	o = copied(o)
	for i, p := range o.Parts {
		requests, caps := valuesOf(p.Requests), valuesOf(p.Limits)
		for _, name := range resourcesOf(p, l) {
			rules := rulesFor(l, name)
			if _, has := caps[name]; !has {
				if v, set := firstSet(rules, func(r named) int64 { return r.Default }); set {
					caps[name] = v
				}
			}
			if _, has := requests[name]; has {
				continue
			}
			if v, set := firstSet(rules, func(r named) int64 { return r.Request }); set {
				requests[name] = v
			} else if v, has := caps[name]; has {
				requests[name] = v
			}
		}
		o.Parts[i].Requests, o.Parts[i].Limits = amountsOf(requests), amountsOf(caps)
	}
	if object.ValidObject(o) != api.OK {
		return api.Object{}, api.ErrLong
	}
	return o, api.OK
}

// refusals: all that refuses a part, in order.
type refusal struct {
	api.Detail
	errno api.Errno
}

func refusals(p api.Part, l line) []refusal {
	var all []refusal
	for _, name := range resourcesOf(p, l) {
		request, asked := valuesOf(p.Requests)[name]
		limit, capped := valuesOf(p.Limits)[name]
		if asked && capped && request > limit {
			all = append(all, refusal{api.Detail{Part: p.Name, Resource: name}, api.ErrAsk})
		}
		for _, r := range rulesFor(l, name) {
			d := api.Detail{Path: r.from.Path, Name: r.from.Name, Part: p.Name, Resource: name}
			if r.Min != off && (!asked || request < r.Min) {
				all = append(all, refusal{d, api.ErrMin})
			}
			if r.Max != off && !capped {
				all = append(all, refusal{d, api.ErrNoCap})
			}
			if r.Max != off && capped && limit > r.Max {
				all = append(all, refusal{d, api.ErrMax})
			}
			if r.Ratio != off && asked && capped && product(limit, 1000).Cmp(product(r.Ratio, request)) > 0 {
				all = append(all, refusal{d, api.ErrRatio})
			}
		}
	}
	return all
}

func product(a, b int64) *big.Int { return new(big.Int).Mul(big.NewInt(a), big.NewInt(b)) }

func wantCheck(o api.Object, l line) (api.Detail, api.Errno) {
	if object.ValidObject(o) != api.OK || !allValid(l) {
		return api.Detail{}, api.ErrObject
	}
	for _, p := range o.Parts {
		if all := refusals(p, l); len(all) > 0 {
			return all[0].Detail, all[0].errno
		}
	}
	return api.Detail{}, api.OK
}

func wantAdmit(o api.Object, l line) (api.Object, api.Detail, api.Errno) {
	full, errno := wantDefault(o, l)
	if errno != api.OK {
		return api.Object{}, api.Detail{}, errno
	}
	d, errno := wantCheck(full, l)
	if errno != api.OK {
		return api.Object{}, d, errno
	}
	return full, d, errno
}

func wantMerge(l line) ([]api.Rule, api.Errno) {
	if !allValid(l) {
		return nil, api.ErrObject
	}
	names := lineResources(l)
	if len(names) > 16 {
		return nil, api.ErrLong
	}
	var merged []api.Rule
	for _, name := range names {
		rules := rulesFor(l, name)
		sorted := func(number func(named) int64) []int64 {
			list := []int64{}
			for _, r := range rules {
				if number(r) != off {
					list = append(list, number(r))
				}
			}
			slices.Sort(list)
			return list
		}
		r := rule(name, off, off, off, off, off)
		if all := sorted(func(r named) int64 { return r.Min }); len(all) > 0 {
			r.Min = all[len(all)-1]
		}
		if all := sorted(func(r named) int64 { return r.Max }); len(all) > 0 {
			r.Max = all[0]
		}
		if all := sorted(func(r named) int64 { return r.Ratio }); len(all) > 0 {
			r.Ratio = all[0]
		}
		if v, set := firstSet(rules, func(r named) int64 { return r.Default }); set {
			r.Default = v
		}
		if v, set := firstSet(rules, func(r named) int64 { return r.Request }); set {
			r.Request = v
		}
		merged = append(merged, r)
	}
	return merged, api.OK
}

// asked holds all four calls against the model, and tells what Admit answers.
func asked(t *testing.T, o api.Object, l line) api.Errno {
	t.Helper()
	want, wantErrno := wantDefault(o, l)
	if full, errno := limits.Default(o, l); errno != wantErrno || !same(full, want) {
		t.Fatalf("Default(%+v, %+v) = %+v, %d, want %+v, %d", o, l, full, errno, want, wantErrno)
	}
	wantDetail, wantErrno := wantCheck(o, l)
	if d, errno := limits.Check(o, l); errno != wantErrno || d != wantDetail {
		t.Fatalf("Check(%+v, %+v) = %+v, %d, want %+v, %d", o, l, d, errno, wantDetail, wantErrno)
	}
	want, wantDetail, wantErrno = wantAdmit(o, l)
	if full, d, errno := limits.Admit(o, l); errno != wantErrno || d != wantDetail || !same(full, want) {
		t.Fatalf("Admit(%+v, %+v) = %+v, %+v, %d, want %+v, %+v, %d", o, l, full, d, errno, want, wantDetail, wantErrno)
	}
	merged(t, l)
	return wantErrno
}

// merged holds Merge against the model.
func merged(t *testing.T, l line) ([]api.Rule, api.Errno) {
	t.Helper()
	want, wantErrno := wantMerge(l)
	rules, errno := limits.Merge(l)
	if errno != wantErrno || !slices.Equal(rules, want) {
		t.Fatalf("Merge(%+v) = %+v, %d, want %+v, %d", l, rules, errno, want, wantErrno)
	}
	return rules, errno
}

// same: empty lists and nil are the same.
func same(a, b api.Object) bool { return reflect.DeepEqual(copied(a), copied(b)) }

// copied shares no memory with o, and none of its lists is nil.
func copied(o api.Object) api.Object {
	o.Labels = append([]api.Label{}, o.Labels...)
	o.Parts = append([]api.Part{}, o.Parts...)
	for i, p := range o.Parts {
		o.Parts[i].Requests = append([]api.Amount{}, p.Requests...)
		o.Parts[i].Limits = append([]api.Amount{}, p.Limits...)
	}
	return o
}

// amounts of "cpu 1 mem 2".
func amounts(text string) []api.Amount {
	var l []api.Amount
	words := strings.Fields(text)
	for i := 0; i < len(words); i += 2 {
		a := api.Amount{Name: words[i]}
		fmt.Sscan(words[i+1], &a.Value)
		l = append(l, a)
	}
	return l
}

func part(name, requests, caps string) api.Part {
	return api.Part{Name: name, Requests: amounts(requests), Limits: amounts(caps)}
}

func parts(l ...api.Part) api.Object { return api.Object{Path: "/a", Name: "x", Parts: l} }

// obj: one part "main".
func obj(requests, caps string) api.Object { return parts(part("main", requests, caps)) }

func rule(resource string, least, most, def, request, ratio int64) api.Rule {
	return api.Rule{Resource: resource, Min: least, Max: most, Default: def, Request: request, Ratio: ratio}
}

func cpu(least, most, def, request, ratio int64) api.Rule {
	return rule("cpu", least, most, def, request, ratio)
}

func limit(path, name string, rules ...api.Rule) api.LimitRange {
	return api.LimitRange{Path: path, Name: name, Rules: rules}
}

// in is a line of these ranges in /a.
func in(l ...api.LimitRange) line { return line{l} }

// by is a line of one range {/a, l} with these rules.
func by(rules ...api.Rule) line { return in(limit("/a", "l", rules...)) }

// becomes holds Default of an object of one part against what is wanted.
func becomes(t *testing.T, o api.Object, l line, requests, caps string) {
	t.Helper()
	full, errno := limits.Default(o, l)
	want := copied(o)
	want.Parts[0].Requests, want.Parts[0].Limits = amounts(requests), amounts(caps)
	if errno != api.OK || !same(full, want) {
		t.Errorf("Default(%+v, %+v) = %+v, %d, want %+v", o, l, full, errno, want)
	}
	asked(t, o, l)
}

// refuses holds Check against what is wanted.
func refuses(t *testing.T, o api.Object, l line, want api.Detail, wantErrno api.Errno) {
	t.Helper()
	if d, errno := limits.Check(o, l); d != want || errno != wantErrno {
		t.Errorf("Check(%+v, %+v) = %+v, %d, want %+v, %d", o, l, d, errno, want, wantErrno)
	}
	asked(t, o, l)
}

func takes(t *testing.T, o api.Object, l line) {
	t.Helper()
	refuses(t, o, l, api.Detail{}, api.OK)
}

// mergesTo holds Merge against what is wanted.
func mergesTo(t *testing.T, l line, want ...api.Rule) {
	t.Helper()
	if rules, errno := merged(t, l); errno != api.OK || !slices.Equal(rules, want) {
		t.Errorf("Merge(%+v) = %+v, %d, want %+v", l, rules, errno, want)
	}
}

// allRefuse asks that every call answers ErrObject and nothing else; Merge too, if the line is at fault.
func allRefuse(t *testing.T, what string, o api.Object, l line, lineToo bool) {
	t.Helper()
	first, one := limits.Default(o, l)
	d, two := limits.Check(o, l)
	second, e, three := limits.Admit(o, l)
	if one != api.ErrObject || two != api.ErrObject || three != api.ErrObject {
		t.Errorf("%s: Default %d, Check %d, Admit %d", what, one, two, three)
	}
	if !reflect.ValueOf(first).IsZero() || !reflect.ValueOf(second).IsZero() || d != (api.Detail{}) || e != (api.Detail{}) {
		t.Errorf("%s: %+v, %+v, %+v, %+v beside an error", what, first, d, second, e)
	}
	if rules, errno := limits.Merge(l); lineToo && (errno != api.ErrObject || len(rules) != 0) {
		t.Errorf("%s: Merge = %+v, %d", what, rules, errno)
	}
	asked(t, o, l)
}

func source(n uint64) *rand.Rand { return rand.New(rand.NewPCG(16, n)) }

func pick[T any](r *rand.Rand, l ...T) T { return l[r.IntN(len(l))] }

// few: so few that parts and ranges often speak of the same; their order is not that of their lengths.
func few(r *rand.Rand) string { return pick(r, "a", "a-b", "a.b", "cpu", "cpu", "cpu", "mem") }

// anyValue: small ones that often lie side by side, some at the ends.
func anyValue(r *rand.Rand) int64 {
	if r.IntN(12) == 0 {
		return pick[int64](r, most, most-1, most/2, most/2+1, most/1000, most/1000+1, 1<<32, r.Int64())
	}
	return pick[int64](r, 0, 1, 2, 3, 4, 5, 10, 100, 101, 199, 200, 201, 500, 1000)
}

func anyRatio(r *rand.Rand) int64 {
	return pick[int64](r, 0, 1, 999, 1000, 1001, 2000, 2000, 3000, 10000, 1000000, most, anyValue(r))
}

func maybe(r *rand.Rand, oneIn int, value func(*rand.Rand) int64) int64 {
	if r.IntN(oneIn) > 0 {
		return off
	}
	return value(r)
}

func anyAmounts(r *rand.Rand) []api.Amount {
	values := map[string]int64{}
	for range pick(r, 0, 0, 1, 1, 2, 3, 4) {
		values[few(r)] = anyValue(r)
	}
	return amountsOf(values)
}

func anyObject(r *rand.Rand) api.Object {
	o := api.Object{Path: pick(r, "/", "/a", "/a/b"), Name: pick(r, "x", "y"), Priority: r.IntN(10), Deadline: pick[int64](r, 0, 7), Version: pick[int64](r, 0, 9)}
	for _, key := range []string{"k", "l"}[:r.IntN(3)] {
		o.Labels = append(o.Labels, api.Label{Key: key, Value: pick(r, "", "v")})
	}
	for _, name := range []string{"a", "b", "c"}[:pick(r, 1, 1, 1, 2, 3)] {
		o.Parts = append(o.Parts, api.Part{Name: name, Requests: anyAmounts(r), Limits: anyAmounts(r)})
	}
	return o
}

// anyRules: of a range; seldom: one in how many numbers is set.
func anyRules(r *rand.Rand, seldom int) []api.Rule {
	rules := map[string]api.Rule{}
	for range pick(r, 1, 1, 2, 4) {
		name := few(r)
		rules[name] = rule(name, maybe(r, seldom, anyValue), maybe(r, seldom, anyValue), maybe(r, seldom, anyValue), maybe(r, seldom, anyValue), maybe(r, seldom, anyRatio))
	}
	var l []api.Rule
	for _, name := range slices.Sorted(maps.Keys(rules)) {
		l = append(l, rules[name])
	}
	return l
}

func anyRange(r *rand.Rand, seldom int) api.LimitRange {
	return limit(pick(r, "/", "/a", "/a/b"), pick(r, "l", "m", "n"), anyRules(r, seldom)...)
}

func anyLine(r *rand.Rand) line {
	var l line
	seldom := pick(r, 1, 2, 4, 8)
	for range pick(r, 0, 1, 1, 2, 3) {
		var ranges []api.LimitRange
		for range pick(r, 0, 1, 1, 2, 3) {
			ranges = append(ranges, anyRange(r, seldom))
		}
		l = append(l, ranges)
	}
	return l
}
