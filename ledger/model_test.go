package ledger_test

import (
	"maps"
	"math/rand/v2"
	"slices"
	"strings"
	"testing"

	"bursar/api"
	"bursar/label"
	"bursar/ledger"
	"bursar/scope"
)

// P17.1, P17.4: random calls, with objects that are right or not, charged or not: each answers and does what the model says, and each of the answers comes often.
func TestAnyCalls(t *testing.T) {
	told := map[string]map[api.Errno]int{"Charge": {}, "Release": {}, "Change": {}}
	for seed := range uint64(300) {
		r := source(1000 + seed)
		l, b := ledger.New(), newBook()
		var living []api.Object
		known := func() api.Object {
			if len(living) == 0 || r.IntN(3) == 0 {
				return anyObject(r, true)
			}
			return other(r, pick(r, living...))
		}
		for range 40 {
			var call string
			var errno, want api.Errno
			old, now := known(), anyObject(r, seed%4 > 0)
			switch r.IntN(5) {
			case 0, 1:
				call, errno, want = "Charge", l.Charge(now), b.charge(now)
			case 2:
				call, errno, want = "Release", l.Release(old), b.release(old)
			default:
				call, errno, want = "Change", l.Change(old, now), b.change(old, now)
			}
			if errno != want {
				t.Fatalf("seed %d: %s of %v, %v: %d, want %d", seed, call, old, now, errno, want)
			}
			if errno == api.OK && call != "Release" {
				living = append(living, now)
			}
			told[call][errno]++
			same(t, l, b)
			if t.Failed() {
				t.Fatalf("seed %d: behind %s of %v, %v: %d", seed, call, old, now, errno)
			}
		}
	}
	for call, l := range told {
		for _, errno := range []api.Errno{api.OK, api.ErrPath, api.ErrArg, api.ErrOver, api.ErrLedger} {
			if n := l[errno]; n < 50 && !(call == "Charge" && errno == api.ErrLedger) {
				t.Errorf("%s answered %d only %d times", call, errno, n)
			}
		}
	}
}

// honest: a ledger behind random calls that take away only what was charged, and the objects that are charged in it.
func honest(t *testing.T, r *rand.Rand, n int) (*ledger.Ledger, []api.Object) {
	t.Helper()
	l := ledger.New()
	var living []api.Object
	for range n {
		o := anyObject(r, false)
		if len(living) == 0 || r.IntN(2) == 0 {
			is(t, "Charge", l.Charge(o), api.OK)
			living = append(living, o)
			continue
		}
		at := r.IntN(len(living))
		if r.IntN(2) == 0 {
			is(t, "Release", l.Release(other(r, living[at])), api.OK)
			living = slices.Delete(living, at, at+1)
		} else {
			is(t, "Change", l.Change(living[at], o), api.OK)
			living[at] = o
		}
	}
	return l, living
}

// everyScope: the 15 that there are.
func everyScope() []api.Scope {
	scopes := []api.Scope{{Kind: 0}, {Kind: 1}, {Kind: 2}, {Kind: 3}, {Kind: 4}}
	for arg := range 10 {
		scopes = append(scopes, api.Scope{Kind: 5, Arg: arg})
	}
	return scopes
}

// everyResource: all that some object uses.
func everyResource(t *testing.T, objects []api.Object) []string {
	names := map[string]struct{}{}
	for _, o := range objects {
		for _, use := range usesTold(t, o) {
			names[use.Name] = struct{}{}
		}
	}
	return slices.Sorted(maps.Keys(names))
}

func usesTold(t *testing.T, o api.Object) []api.Amount {
	uses, errno := scope.Uses(o)
	if errno != api.OK {
		t.Fatalf("Uses(%v): %d", o, errno)
	}
	return uses
}

// everyPath: the paths that the tests take, and all above them.
func everyPath() []string {
	var all []string
	for _, path := range paths {
		all = append(all, lineOf(path)...)
	}
	slices.Sort(all)
	return slices.Compact(all)
}

// reckoned: the sum over objects, as the layers below tell of each.
func reckoned(t *testing.T, objects []api.Object, s api.Scope, resource string) int64 {
	total := int64(0)
	for _, o := range objects {
		if !scope.In(o, s) {
			continue
		}
		for _, use := range usesTold(t, o) {
			if use.Name == resource {
				total += use.Value
			}
		}
	}
	return total
}

// under: those that lie at a path or below it.
func under(objects []api.Object, path string) []api.Object {
	return slices.DeleteFunc(slices.Clone(objects), func(o api.Object) bool { return !label.Under(o.Path, path) })
}

// P17.2: the sums are the sums.
func TestSumsAreTheSums(t *testing.T) {
	for seed := range uint64(30) {
		r := source(2000 + seed)
		l, living := honest(t, r, 40)
		var want []api.Use
		resources := everyResource(t, living)
		for _, path := range everyPath() {
			below := under(living, path)
			if n := l.Count(path); n != len(below) {
				t.Errorf("Count(%q) = %d, want %d", path, n, len(below))
			}
			for _, s := range everyScope() {
				for _, resource := range resources {
					sum := reckoned(t, below, s, resource)
					used(t, l, path, s, resource, sum)
					if sum != 0 {
						want = append(want, api.Use{Path: path, Scope: s, Resource: resource, Value: sum})
					}
				}
			}
		}
		slices.SortFunc(want, compareUses)
		if !slices.Equal(l.Rows(), want) {
			t.Errorf("Rows = %v, want %v", l.Rows(), want)
		}
		if t.Failed() {
			t.Fatalf("seed %d", seed)
		}
	}
}

// alike asks two ledgers for all they tell, and then the same of both.
func alike(t *testing.T, r *rand.Rand, one, two *ledger.Ledger, living []api.Object) {
	t.Helper()
	told := func() {
		t.Helper()
		if !slices.Equal(one.Rows(), two.Rows()) {
			t.Fatalf("Rows: %v and %v", one.Rows(), two.Rows())
		}
		for _, path := range everyPath() {
			if one.Count(path) != two.Count(path) {
				t.Errorf("Count(%q): %d and %d", path, one.Count(path), two.Count(path))
			}
		}
	}
	told()
	for range 10 {
		old, now := anyObject(r, true), anyObject(r, true)
		if len(living) > 0 {
			old = pick(r, old, pick(r, living...))
		}
		is(t, "Release of both", one.Release(old), two.Release(old))
		is(t, "Change of both", one.Change(now, old), two.Change(now, old))
		is(t, "Charge of both", one.Charge(now), two.Charge(now))
		told()
	}
}

// P17.2: the same objects in any order are the same ledger.
func TestOfInAnyOrder(t *testing.T) {
	for seed := range uint64(100) {
		r := source(3000 + seed)
		l, living := honest(t, r, 30)
		shuffled := slices.Clone(living)
		r.Shuffle(len(shuffled), func(i, j int) { shuffled[i], shuffled[j] = shuffled[j], shuffled[i] })
		alike(t, r, l, charged(t, shuffled...), living)
		if t.Failed() {
			t.Fatalf("seed %d", seed)
		}
	}
}

// Of is Charge of each: what is refused on the way is refused, though others that go ahead in another order are too.
func TestOfTellsTheFirst(t *testing.T) {
	over, below, noPath := asks("/a", "cpu", most, "cpu", 1), asks("/a", "cpu", -1), bare("?")
	full, more := asks("/a", "cpu", most), asks("/b", "cpu", 1)
	for _, c := range []struct {
		list []api.Object
		want api.Errno
	}{
		{[]api.Object{bare("/"), over, noPath, below}, api.ErrOver},
		{[]api.Object{bare("/"), noPath, below, over}, api.ErrPath},
		{[]api.Object{below, over, noPath}, api.ErrArg},
		{[]api.Object{full, more, noPath}, api.ErrOver},
		{[]api.Object{more, full, noPath}, api.ErrOver},
		{[]api.Object{full, noPath, more}, api.ErrPath},
	} {
		if l, errno := ledger.Of(c.list); l != nil || errno != c.want {
			t.Errorf("Of(%v) = %v, %d, want %d", c.list, l, errno, c.want)
		}
	}
}

// P17.3: Charge and Release undo each other, Change(o, o) changes nothing.
func TestThereAndBack(t *testing.T) {
	for seed := range uint64(300) {
		r := source(4000 + seed)
		l, living := honest(t, r, 12)
		was := l.Rows()
		back := func(what string) {
			t.Helper()
			if !slices.Equal(l.Rows(), was) || l.Count("/") != len(living) {
				t.Fatalf("seed %d: %s: %v was %v", seed, what, l.Rows(), was)
			}
		}
		o := anyObject(r, true)
		o.Path = pick(r, paths...)
		if l.Charge(o) == api.OK {
			is(t, "Release", l.Release(o), api.OK)
			back("Charge and Release")
		}
		if l.Release(o) == api.OK {
			is(t, "Charge", l.Charge(o), api.OK)
			back("Release and Charge of what the sums allow")
		}
		for _, o := range living {
			is(t, "Change", l.Change(o, o), api.OK)
			back("Change of an object to itself")
			is(t, "Release", l.Release(o), api.OK)
			is(t, "Charge", l.Charge(o), api.OK)
			back("Release and Charge")
		}
		if t.Failed() {
			t.Fatalf("seed %d", seed)
		}
	}
}

// P17.3: Change is Release and Charge, both or none.
func TestChangeIsReleaseAndCharge(t *testing.T) {
	told := map[api.Errno]int{}
	for seed := range uint64(3000) {
		r := source(5000 + seed)
		objects := []api.Object{asks(pick(r, paths...), "cpu", most-2000)}
		for range 3 {
			objects = append(objects, anyObject(r, false))
		}
		one, errno := ledger.Of(objects)
		if errno != api.OK {
			continue
		}
		two := charged(t, objects...)
		old, now := pick(r, pick(r, objects...), anyObject(r, true)), anyObject(r, r.IntN(2) == 0)
		want := two.Release(old)
		if want == api.OK {
			want = two.Charge(now)
		}
		if want != api.OK {
			two = charged(t, objects...)
		}
		is(t, "Change", one.Change(old, now), want)
		told[want]++
		if !slices.Equal(one.Rows(), two.Rows()) || one.Count("/") != two.Count("/") {
			t.Fatalf("seed %d: %v, want %v", seed, one.Rows(), two.Rows())
		}
	}
	for _, errno := range []api.Errno{api.OK, api.ErrPath, api.ErrArg, api.ErrOver, api.ErrLedger} {
		if told[errno] < 50 {
			t.Errorf("%d came only %d times", errno, told[errno])
		}
	}
}

// P17.5: the sum of a namespace is that of its own objects and those of the namespaces right below it.
func TestNamespacesAddUp(t *testing.T) {
	for seed := range uint64(30) {
		l, living := honest(t, source(6000+seed), 40)
		resources := everyResource(t, living)
		for _, path := range everyPath() {
			own := slices.DeleteFunc(slices.Clone(living), func(o api.Object) bool { return o.Path != path })
			var children []string
			for _, child := range everyPath() {
				if above, errno := label.Parent(child); errno == api.OK && above == path {
					children = append(children, child)
				}
			}
			for _, s := range everyScope() {
				for _, resource := range resources {
					total := reckoned(t, own, s, resource)
					for _, child := range children {
						total += l.Used(child, s, resource)
						if l.Used(child, s, resource) > l.Used(path, s, resource) {
							t.Errorf("Used at %q is less than at %q", path, child)
						}
					}
					used(t, l, path, s, resource, total)
				}
			}
		}
		if t.Failed() {
			t.Fatalf("seed %d", seed)
		}
	}
}

// One outcome: the same calls on new ledgers tell the same, each time.
func TestSameAnswersEachTime(t *testing.T) {
	for seed := range uint64(50) {
		first, _ := honest(t, source(7000+seed), 20)
		for range 3 {
			again, _ := honest(t, source(7000+seed), 20)
			if !slices.Equal(first.Rows(), again.Rows()) || !slices.Equal(first.Rows(), first.Rows()) {
				t.Fatalf("seed %d: %v, then %v", seed, first.Rows(), again.Rows())
			}
		}
	}
}

// Texts of any kind are asked for, and nothing is told of what was never charged.
func TestAskedForAnything(t *testing.T) {
	l := charged(t, asks("/a/b", "cpu", 5))
	for _, path := range append([]string{"/a/b/", "/a/bc", "/a/", "/ab", strings.Repeat("/a", 1<<16)}, noPaths...) {
		for _, s := range append(everyScope(), noScopes...) {
			used(t, l, path, s, "count", 0)
			used(t, l, path, s, "requests.cpu", 0)
		}
		if n := l.Count(path); n != 0 {
			t.Errorf("Count(%.40q) = %d", path, n)
		}
	}
	for _, resource := range []string{"", "cpu", "limits.cpu", "requests.", "requests.cpu ", "requests.CPU", "requests.mem", "Count", "requests.count", strings.Repeat("x", 1<<20)} {
		used(t, l, "/a/b", api.Scope{}, resource, 0)
	}
}
