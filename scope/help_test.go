package scope_test

import (
	"math"
	"math/big"
	"math/rand/v2"
	"regexp"
	"slices"
	"sort"
	"strings"
	"testing"

	"bursar/api"
	"bursar/scope"
)

// What follows is the chapter's words over again, by other means: its table as texts, sums of big numbers, Within by trying objects.

const most = math.MaxInt64

// texts: the 15 scopes, each with its text.
var texts = map[api.Scope]string{
	{Kind: 0}: "all", {Kind: 1}: "best", {Kind: 2}: "notbest", {Kind: 3}: "ends", {Kind: 4}: "notends",
	{Kind: 5, Arg: 0}: "priority=0", {Kind: 5, Arg: 1}: "priority=1", {Kind: 5, Arg: 2}: "priority=2", {Kind: 5, Arg: 3}: "priority=3", {Kind: 5, Arg: 4}: "priority=4",
	{Kind: 5, Arg: 5}: "priority=5", {Kind: 5, Arg: 6}: "priority=6", {Kind: 5, Arg: 7}: "priority=7", {Kind: 5, Arg: 8}: "priority=8", {Kind: 5, Arg: 9}: "priority=9",
}

var textForm = regexp.MustCompile(`\A(?:all|best|notbest|ends|notends|priority=[0-9])\z`)

// byOrder: the scopes by Kind, then Arg.
func byOrder() []api.Scope {
	var l []api.Scope
	for s := range texts {
		l = append(l, s)
	}
	sort.Slice(l, func(i, j int) bool { return l[i].Kind*10+l[i].Arg < l[j].Kind*10+l[j].Arg })
	return l
}

// numbers: kinds and arguments in and around the table, and at the ends of what a number can be.
var numbers = []int{math.MinInt, math.MinInt + 1, math.MinInt32, -256, -10, -6, -5, -2, -1, 0, 1, 2, 3, 4, 5, 6, 7, 8, 9, 10, 11, 15, 16, 255, 256, 257, 1 << 16, 1 << 31, 1 << 32, 1<<32 + 5, math.MaxInt - 1, math.MaxInt}

// pairs: all of these as scopes, valid or not.
func pairs() []api.Scope {
	var l []api.Scope
	for _, kind := range numbers {
		for _, arg := range numbers {
			l = append(l, api.Scope{Kind: kind, Arg: arg})
		}
	}
	return l
}

func bare(o api.Object) bool {
	n := 0
	for _, p := range o.Parts {
		n += len(p.Requests) + len(p.Limits)
	}
	return n == 0
}

func lies(o api.Object, s api.Scope) bool {
	switch texts[s] {
	case "":
		return false
	case "all":
		return true
	case "best":
		return bare(o)
	case "notbest":
		return !bare(o)
	case "ends":
		return o.Deadline >= 1
	case "notends":
		return o.Deadline < 1
	}
	return o.Priority == s.Arg
}

func scopesOf(o api.Object) []api.Scope {
	return slices.DeleteFunc(byOrder(), func(s api.Scope) bool { return !lies(o, s) })
}

// usesOf sums without a bound, and asks for the bounds at the end.
func usesOf(o api.Object) ([]api.Amount, api.Errno) {
	sums := map[string]*big.Int{"count": big.NewInt(1000)}
	below := false
	add := func(head string, l []api.Amount) {
		for _, a := range l {
			below = below || a.Value < 0
			if sums[head+a.Name] == nil {
				sums[head+a.Name] = new(big.Int)
			}
			sums[head+a.Name].Add(sums[head+a.Name], big.NewInt(a.Value))
		}
	}
	for _, p := range o.Parts {
		add("requests.", p.Requests)
		add("limits.", p.Limits)
	}
	if below {
		return nil, api.ErrArg
	}
	var uses []api.Amount
	for name, sum := range sums {
		if !sum.IsInt64() {
			return nil, api.ErrOver
		}
		uses = append(uses, api.Amount{Name: name, Value: sum.Int64()})
	}
	sort.Slice(uses, func(i, j int) bool { return uses[i].Name < uses[j].Name })
	return uses, api.OK
}

func source(n uint64) *rand.Rand { return rand.New(rand.NewPCG(15, n)) }

func pick[T any](r *rand.Rand, l ...T) T { return l[r.IntN(len(l))] }

// amounts of "cpu", 1, "mem", 2.
func amounts(list ...any) []api.Amount {
	var l []api.Amount
	for i := 0; i < len(list); i += 2 {
		l = append(l, api.Amount{Name: list[i].(string), Value: int64(list[i+1].(int))})
	}
	return l
}

// asks is an object of one part with these requests, caps one with these limits.
func asks(list ...any) api.Object {
	return api.Object{Parts: []api.Part{{Name: "p", Requests: amounts(list...)}}}
}

func caps(list ...any) api.Object {
	return api.Object{Parts: []api.Part{{Name: "p", Limits: amounts(list...)}}}
}

// resources: names of resources, and texts that are none; some look like what stands ahead of them in an answer.
var resources = []string{"cpu", "mem", "cpu", "mem", "disk", "a", "", ".", "count", "requests.cpu", "limits.cpu", "requests.", "CPU", "\x00", "\xff\xfe", "é", "cpu ", strings.Repeat("x", 300)}

// anyAmounts: mostly small ones, so that most sums are told; wild: some at the bounds and below 0.
func anyAmounts(r *rand.Rand, wild bool) []api.Amount {
	var l []api.Amount
	for range pick(r, 0, 0, 1, 1, 2, 3, 20) {
		value := r.Int64N(5000)
		if wild && r.IntN(6) == 0 {
			value = pick[int64](r, 0, 1, most, most-1, most-1000, most/2, most/2+1, -1, math.MinInt64)
		}
		l = append(l, api.Amount{Name: pick(r, resources...), Value: value})
	}
	return l
}

func anyParts(r *rand.Rand, wild bool) []api.Part {
	var parts []api.Part
	empty := r.IntN(5) == 0
	for range pick(r, 0, 1, 1, 2, 3, 8, 12) {
		p := api.Part{Name: pick(r, "a", "b", "", "X")}
		if !empty {
			p.Requests, p.Limits = anyAmounts(r, wild), anyAmounts(r, wild)
		}
		parts = append(parts, p)
	}
	return parts
}

func anyObject(r *rand.Rand, wild bool) api.Object {
	return api.Object{
		Path: pick(r, "/", "/a", "", "?"), Name: pick(r, "x", "", "?"), Version: pick[int64](r, 0, 7, -1),
		Priority: pick(r, 0, 1, 2, 3, 4, 5, 6, 7, 8, 9, 0, 9, -1, 10, 12, math.MinInt, math.MaxInt, 1<<32+5),
		Deadline: pick[int64](r, 0, 0, 1, 7, -1, most, math.MinInt64, 1<<60+1, 1<<32),
		Parts:    anyParts(r, wild),
	}
}

// copied shares no memory with o.
func copied(o api.Object) api.Object {
	o.Labels = slices.Clone(o.Labels)
	o.Parts = slices.Clone(o.Parts)
	for i, p := range o.Parts {
		o.Parts[i].Requests, o.Parts[i].Limits = slices.Clone(p.Requests), slices.Clone(p.Limits)
	}
	return o
}

// uses holds what an object uses against what is wanted.
func uses(t *testing.T, o api.Object, want []api.Amount, wantErrno api.Errno) {
	t.Helper()
	if l, errno := scope.Uses(o); !slices.Equal(l, want) || errno != wantErrno {
		t.Errorf("Uses(%#v) = %#v, %d, want %#v, %d", o, l, errno, want, wantErrno)
	}
}

func of(t *testing.T, o api.Object, want ...api.Scope) {
	t.Helper()
	if l := scope.Of(o); !slices.Equal(l, want) {
		t.Errorf("Of(%#v) = %v, want %v", o, l, want)
	}
}

// asked holds all that is told of an object against the model.
func asked(t *testing.T, o api.Object) {
	t.Helper()
	of(t, o, scopesOf(o)...)
	want, wantErrno := usesOf(o)
	uses(t, o, want, wantErrno)
	for s := range texts {
		if scope.In(o, s) != lies(o, s) {
			t.Errorf("In(%#v, %v) = %t", o, s, scope.In(o, s))
		}
	}
}
