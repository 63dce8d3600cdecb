package ledger_test

import (
	"maps"
	"math"
	"math/big"
	"math/rand/v2"
	"regexp"
	"slices"
	"strings"
	"testing"

	"bursar/api"
	"bursar/ledger"
)

// What follows is the chapter's words over again, by other means: paths by a pattern, sums of big numbers without a bound, all of them laid on a copy and judged there.

const most = math.MaxInt64

var pathForm = regexp.MustCompile(`\A(?:/|(?:/[a-z0-9](?:[a-z0-9-]{0,30}[a-z0-9])?){1,8})\z`)

// book: a ledger as a model. The keys of its sums are uses with the value 0.
type book struct {
	sums   map[api.Use]*big.Int
	counts map[string]int
}

func newBook() book { return book{map[api.Use]*big.Int{}, map[string]int{}} }

func isPath(path string) bool { return len(path) <= 64 && pathForm.MatchString(path) }

// namesOf: a path's names.
func namesOf(path string) []string {
	return strings.FieldsFunc(path, func(letter rune) bool { return letter == '/' })
}

// lineOf: the root, then what lies below it, down to the path.
func lineOf(path string) []string {
	names := namesOf(path)
	var line []string
	for n := range len(names) + 1 {
		line = append(line, "/"+strings.Join(names[:n], "/"))
	}
	return line
}

func scopesOf(o api.Object) []api.Scope {
	scopes := []api.Scope{{Kind: 0}}
	named := slices.ContainsFunc(o.Parts, func(p api.Part) bool { return len(p.Requests)+len(p.Limits) > 0 })
	scopes = append(scopes, map[bool]api.Scope{false: {Kind: 1}, true: {Kind: 2}}[named])
	scopes = append(scopes, map[bool]api.Scope{true: {Kind: 3}, false: {Kind: 4}}[o.Deadline > 0])
	if o.Priority >= 0 && o.Priority <= 9 {
		scopes = append(scopes, api.Scope{Kind: 5, Arg: o.Priority})
	}
	return scopes
}

// usesOf: what an object uses, whether or not that may be; and whether some amount is below 0.
func usesOf(o api.Object) (uses map[string]*big.Int, below bool) {
	uses = map[string]*big.Int{"count": big.NewInt(1000)}
	add := func(head string, l []api.Amount) {
		for _, a := range l {
			below = below || a.Value < 0
			name := head + a.Name
			if uses[name] == nil {
				uses[name] = new(big.Int)
			}
			uses[name].Add(uses[name], big.NewInt(a.Value))
		}
	}
	for _, p := range o.Parts {
		add("requests.", p.Requests)
		add("limits.", p.Limits)
	}
	return uses, below
}

// wrong: why an object isn't right, OK if it is.
func wrong(o api.Object) api.Errno {
	if !isPath(o.Path) {
		return api.ErrPath
	}
	uses, below := usesOf(o)
	if below {
		return api.ErrArg
	}
	for _, v := range uses {
		if !v.IsInt64() {
			return api.ErrOver
		}
	}
	return api.OK
}

// with: the book with a right object's shares so many times more.
func (b book) with(o api.Object, times int64) book {
	n := book{maps.Clone(b.sums), maps.Clone(b.counts)}
	uses, _ := usesOf(o)
	for _, path := range lineOf(o.Path) {
		n.counts[path] += int(times)
		for _, s := range scopesOf(o) {
			for resource, v := range uses {
				at := api.Use{Path: path, Scope: s, Resource: resource}
				share := new(big.Int).Mul(v, big.NewInt(times))
				if was := n.sums[at]; was != nil {
					share.Add(share, was)
				}
				n.sums[at] = share
			}
		}
	}
	return n
}

func (b book) below() bool {
	for _, v := range b.sums {
		if v.Sign() < 0 {
			return true
		}
	}
	for _, n := range b.counts {
		if n < 0 {
			return true
		}
	}
	return false
}

func (b book) over() bool {
	for _, v := range b.sums {
		if v.Cmp(big.NewInt(most)) > 0 {
			return true
		}
	}
	return false
}

func (b *book) charge(o api.Object) api.Errno {
	if errno := wrong(o); errno != api.OK {
		return errno
	}
	n := b.with(o, 1)
	if n.over() {
		return api.ErrOver
	}
	*b = n
	return api.OK
}

func (b *book) release(o api.Object) api.Errno {
	if errno := wrong(o); errno != api.OK {
		return errno
	}
	n := b.with(o, -1)
	if n.below() {
		return api.ErrLedger
	}
	*b = n
	return api.OK
}

func (b *book) change(old, now api.Object) api.Errno {
	n := *b
	if errno := n.release(old); errno != api.OK {
		return errno
	}
	if errno := n.charge(now); errno != api.OK {
		return errno
	}
	*b = n
	return api.OK
}

func compareUses(a, b api.Use) int {
	if a.Path != b.Path {
		return slices.Compare(namesOf(a.Path), namesOf(b.Path))
	}
	if a.Scope != b.Scope {
		return a.Scope.Kind*10 + a.Scope.Arg - b.Scope.Kind*10 - b.Scope.Arg
	}
	return strings.Compare(a.Resource, b.Resource)
}

func (b book) rows() []api.Use {
	var rows []api.Use
	for at, v := range b.sums {
		if v.Sign() != 0 {
			at.Value = v.Int64()
			rows = append(rows, at)
		}
	}
	slices.SortFunc(rows, compareUses)
	return rows
}

// same holds all that a ledger tells against a book: each sum that ever was, and what stands around them.
func same(t *testing.T, l *ledger.Ledger, b book) {
	t.Helper()
	if rows, want := l.Rows(), b.rows(); !slices.Equal(rows, want) {
		t.Fatalf("Rows = %v, want %v", rows, want)
	}
	for at, v := range b.sums {
		used(t, l, at.Path, at.Scope, at.Resource, v.Int64())
	}
	for _, path := range append(slices.Collect(maps.Keys(b.counts)), noPaths...) {
		if n := l.Count(path); n != b.counts[path] {
			t.Errorf("Count(%q) = %d, want %d", path, n, b.counts[path])
		}
		for _, s := range noScopes {
			used(t, l, path, s, "count", 0)
			used(t, l, path, s, "requests.cpu", 0)
		}
		used(t, l, path, api.Scope{}, "cpu", 0)
		used(t, l, path, api.Scope{}, "", 0)
	}
}

func used(t *testing.T, l *ledger.Ledger, path string, s api.Scope, resource string, want int64) {
	t.Helper()
	if v := l.Used(path, s, resource); v != want {
		t.Errorf("Used(%q, %v, %q) = %d, want %d", path, s, resource, v, want)
	}
}

func is(t *testing.T, what string, errno, want api.Errno) {
	t.Helper()
	if errno != want {
		t.Errorf("%s: %d, want %d", what, errno, want)
	}
}

// unchanged asks f, whose answer must be a refusal, and that it changes nothing.
func unchanged(t *testing.T, what string, l *ledger.Ledger, want api.Errno, f func() api.Errno) {
	t.Helper()
	was, n := l.Rows(), l.Count("/")
	is(t, what, f(), want)
	if rows := l.Rows(); !slices.Equal(rows, was) || l.Count("/") != n {
		t.Errorf("%s changes %v (%d) to %v (%d)", what, was, n, rows, l.Count("/"))
	}
}

// charged: a ledger with these objects.
func charged(t *testing.T, objects ...api.Object) *ledger.Ledger {
	t.Helper()
	l, errno := ledger.Of(objects)
	if l == nil || errno != api.OK {
		t.Fatalf("Of(%v): %d", objects, errno)
	}
	return l
}

// amounts of "cpu", 1, "mem", 2.
func amounts(list ...any) []api.Amount {
	var l []api.Amount
	for i := 0; i < len(list); i += 2 {
		l = append(l, api.Amount{Name: list[i].(string), Value: int64(list[i+1].(int))})
	}
	return l
}

// asks is an object of one part with these requests; bare one without parts.
func asks(path string, list ...any) api.Object {
	return api.Object{Path: path, Name: "x", Parts: []api.Part{{Name: "p", Requests: amounts(list...)}}}
}

func bare(path string) api.Object { return api.Object{Path: path, Name: "x"} }

func source(n uint64) *rand.Rand { return rand.New(rand.NewPCG(17, n)) }

func pick[T any](r *rand.Rand, l ...T) T { return l[r.IntN(len(l))] }

var (
	deep     = "/a/b/c/d/e/f/g/h"                                            // of 8 names
	long     = "/" + strings.Repeat("x", 31) + "/" + strings.Repeat("y", 31) // of 64 bytes
	paths    = []string{"/", "/a", "/a/b", "/a/b/c", "/a-b", "/a-b/c", "/ab", "/a/b-c", "/a0", "/0", "/b", deep, long}
	noPaths  = []string{"", "x", "a/b", "//", "/a/", "/a//b", "/A", "/x y", "/-", "/a-", "/a\x00", "/\xff", "/.", deep + "/i", long + "z", "/" + strings.Repeat("x", 33)}
	noScopes = []api.Scope{{Kind: -1}, {Kind: 6}, {Kind: 9}, {Kind: 0, Arg: 1}, {Kind: 0, Arg: -1}, {Kind: 2, Arg: 1}, {Kind: 5, Arg: 10}, {Kind: 5, Arg: -1}, {Kind: math.MaxInt, Arg: math.MinInt}}
)

// resources: some look like what stands ahead of them in a ledger, some are none.
var resources = []string{"cpu", "cpu", "cpu", "mem", "mem", "disk", "count", "requests.cpu", "", "\x00", "\xff", "CPU"}

// anyAmounts: mostly small ones; wild: some at the bounds and below 0.
func anyAmounts(r *rand.Rand, wild bool) []api.Amount {
	var l []api.Amount
	for range pick(r, 0, 0, 1, 1, 2, 3) {
		value := pick(r, 0, r.Int64N(4), r.Int64N(5000))
		if wild && r.IntN(6) == 0 {
			value = pick[int64](r, most, most-1, most-1000, most/2, most/2+1, most/2, 1<<62, -1, math.MinInt64)
		}
		l = append(l, api.Amount{Name: pick(r, resources...), Value: value})
	}
	return l
}

func anyObject(r *rand.Rand, wild bool) api.Object {
	o := api.Object{
		Path: pick(r, paths...), Name: pick(r, "x", "", "?"), Version: pick[int64](r, 0, 7, -1), Labels: pick(r, nil, []api.Label{{Key: "?"}}),
		Priority: pick(r, 0, 0, 1, 2, 9), Deadline: pick[int64](r, 0, 0, 0, 7),
	}
	if wild {
		o.Path = pick(r, o.Path, o.Path, o.Path, o.Path, o.Path, pick(r, noPaths...))
		o.Priority = pick(r, o.Priority, o.Priority, o.Priority, -1, 10, 12, math.MinInt, math.MaxInt)
		o.Deadline = pick(r, o.Deadline, o.Deadline, -1, most, math.MinInt64)
	}
	for range pick(r, 0, 1, 1, 1, 2, 3) {
		o.Parts = append(o.Parts, api.Part{Name: pick(r, "a", "b", ""), Requests: anyAmounts(r, wild), Limits: anyAmounts(r, wild)})
	}
	if wild && r.IntN(12) == 0 { // one that is over by itself
		o.Parts = append(o.Parts, api.Part{Requests: amounts("cpu", most, "cpu", 1)})
	}
	return o
}

// other: an object with the same sums, told in other words.
func other(r *rand.Rand, o api.Object) api.Object {
	n := api.Object{Path: o.Path, Name: "other", Version: 99, Priority: o.Priority, Deadline: o.Deadline, Labels: []api.Label{{Key: "k", Value: "v"}}}
	for _, p := range o.Parts {
		n.Parts = append(n.Parts, api.Part{Name: "limits", Limits: p.Limits}, api.Part{}, api.Part{Name: "requests", Requests: p.Requests})
	}
	r.Shuffle(len(n.Parts), func(i, j int) { n.Parts[i], n.Parts[j] = n.Parts[j], n.Parts[i] })
	return n
}

// copied shares no memory with o.
func copied(o api.Object) api.Object {
	o.Labels = slices.Clone(o.Labels)
	o.Parts = slices.Clone(o.Parts)
	for i, p := range o.Parts {
		o.Parts[i].Requests, o.Parts[i].Limits = slices.Clone(p.Requests), slices.Clone(p.Limits)
	}
	return o
}
