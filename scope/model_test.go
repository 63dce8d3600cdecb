package scope_test

import (
	"math/rand/v2"
	"reflect"
	"slices"
	"testing"

	"bursar/api"
	"bursar/scope"
)

// Random objects, valid or not, held against the model.
func TestAnyObject(t *testing.T) {
	seen := map[api.Errno]int{}
	for seed := range uint64(20000) {
		o := anyObject(source(seed), seed%2 == 0)
		asked(t, o)
		_, errno := scope.Uses(o)
		seen[errno]++
		if t.Failed() {
			t.Fatalf("seed %d", seed)
		}
	}
	if min(seen[api.OK], seen[api.ErrArg], seen[api.ErrOver]) < 300 {
		t.Errorf("only these came about: %v", seen)
	}
}

func TestOneOfEachPair(t *testing.T) {
	for seed := range uint64(5000) {
		o := anyObject(source(100000+seed), true)
		all := scope.Of(o)
		of := map[int]int{}
		for _, s := range all {
			of[s.Kind]++
			if !scope.Valid(s) || !scope.In(o, s) {
				t.Errorf("Of(%#v) tells %v", o, s)
			}
		}
		if of[api.ScopeAll] != 1 || of[api.ScopeBest]+of[api.ScopeNotBest] != 1 || of[api.ScopeEnds]+of[api.ScopeNotEnds] != 1 {
			t.Errorf("Of(%#v) = %v", o, all)
		}
		if priority := o.Priority >= 0 && o.Priority <= 9; priority != (of[api.ScopePriority] == 1) || !priority && of[api.ScopePriority] != 0 {
			t.Errorf("Of(%#v) = %v", o, all)
		}
		for s := range texts {
			if scope.In(o, s) != slices.Contains(all, s) {
				t.Errorf("In(%#v, %v) = %t, Of = %v", o, s, scope.In(o, s), all)
			}
		}
	}
}

func shuffle[T any](r *rand.Rand, l []T) {
	r.Shuffle(len(l), func(i, j int) { l[i], l[j] = l[j], l[i] })
}

// The order of parts and of amounts, other names of the parts, and parts that name nothing make no difference; nor does what else the object has.
func TestOrderMakesNoDifference(t *testing.T) {
	for seed := range uint64(4000) {
		r := source(200000 + seed)
		o := anyObject(r, seed%2 == 0)
		want, wantErrno := scope.Uses(o)
		scopes := scope.Of(o)
		other := copied(o)
		shuffle(r, other.Parts)
		for i := range other.Parts {
			shuffle(r, other.Parts[i].Requests)
			shuffle(r, other.Parts[i].Limits)
			other.Parts[i].Name = pick(r, "p", "q", "")
		}
		other.Parts = slices.Insert(other.Parts, r.IntN(len(other.Parts)+1), api.Part{Name: "none"})
		other.Path, other.Name, other.Version, other.Labels = "/other", "other", 99, []api.Label{{Key: "k", Value: "v"}}
		uses(t, other, want, wantErrno)
		of(t, other, scopes...)
		if t.Failed() {
			t.Fatalf("seed %d", seed)
		}
	}
}

// An amount cut into two of its name, or moved to another part, is the same use.
func TestAmountsCut(t *testing.T) {
	uses(t, asks("cpu", 3, "mem", 1, "cpu", 4), amounts("count", 1000, "requests.cpu", 7, "requests.mem", 1), api.OK)
	o := api.Object{Parts: []api.Part{{Requests: amounts("cpu", 3)}, {Requests: amounts("mem", 1)}, {Requests: amounts("cpu", 4)}}}
	uses(t, o, amounts("count", 1000, "requests.cpu", 7, "requests.mem", 1), api.OK)
}

// The uses of an object with both objects' parts are the sums, but for count.
func TestUsesAddUp(t *testing.T) {
	told := 0
	for seed := range uint64(6000) {
		r := source(300000 + seed)
		one := anyObject(r, false)
		other := one
		other.Parts = anyParts(r, false)
		if !slices.Equal(scope.Of(one), scope.Of(other)) {
			continue
		}
		told++
		both := one
		both.Parts = slices.Concat(one.Parts, other.Parts)
		sums := map[string]int64{}
		for _, o := range []api.Object{one, other} {
			l, errno := scope.Uses(o)
			if errno != api.OK {
				t.Fatalf("Uses(%#v) = %d", o, errno)
			}
			for _, a := range l {
				sums[a.Name] += a.Value
			}
		}
		l, errno := scope.Uses(both)
		if errno != api.OK || len(l) != len(sums) {
			t.Fatalf("Uses of both = %v, %d, want %v", l, errno, sums)
		}
		for _, a := range l {
			if a.Name == "count" && a.Value != 1000 || a.Name != "count" && a.Value != sums[a.Name] {
				t.Fatalf("Uses of both = %v, want %v", l, sums)
			}
		}
		of(t, both, scope.Of(one)...)
	}
	if told < 1000 {
		t.Errorf("only %d pairs have the same scopes", told)
	}
}

// roomy gives every list of an object spare room with something in it, and tells all of that memory.
func roomy(o api.Object) (api.Object, []api.Part, [][]api.Amount) {
	var lists [][]api.Amount
	room := func(l []api.Amount) []api.Amount {
		whole := append(slices.Clone(l), amounts("spare", -7, "cpu", -7, "spare", -7)...)
		lists = append(lists, whole)
		return whole[:len(l)]
	}
	parts := append(slices.Clone(o.Parts), api.Part{Name: "spare", Requests: amounts("spare", -7)}, api.Part{Name: "spare"})
	for i := range o.Parts {
		parts[i].Requests, parts[i].Limits = room(parts[i].Requests), room(parts[i].Limits)
	}
	o.Parts = parts[:len(o.Parts)]
	return o, parts, lists
}

func TestHandedInStays(t *testing.T) {
	for seed := range uint64(500) {
		r := source(400000 + seed)
		plain := anyObject(r, seed%2 == 0)
		o, parts, lists := roomy(plain)
		again, wholeParts, wholeLists := roomy(plain)
		asked(t, o)
		if !reflect.DeepEqual(o, again) || !reflect.DeepEqual(parts, wholeParts) || !reflect.DeepEqual(lists, wholeLists) {
			t.Fatalf("%#v is now %#v", again, o)
		}
	}
}

func TestAnswersAreNew(t *testing.T) {
	o := two()
	first, _ := scope.Uses(o)
	second, _ := scope.Uses(o)
	for i := range first[:cap(first)] {
		first[:cap(first)][i] = api.Amount{Name: "spoilt", Value: -1}
	}
	if want, _ := usesOf(o); !slices.Equal(second, want) {
		t.Errorf("two answers of Uses share memory: %v", second)
	}
	one, other := scope.Of(o), scope.Of(o)
	for i := range one[:cap(one)] {
		one[:cap(one)][i] = api.Scope{Kind: -1, Arg: -1}
	}
	if !slices.Equal(other, scopesOf(o)) {
		t.Errorf("two answers of Of share memory: %v", other)
	}
	if !reflect.DeepEqual(o, two()) {
		t.Errorf("writing into answers changes the object: %#v", o)
	}
	// An answer stays what it was when the object is changed.
	o.Parts[0].Requests[0] = api.Amount{Name: "spoilt", Value: -1}
	if want, _ := usesOf(two()); !slices.Equal(second, want) {
		t.Errorf("an answer shares memory with the object: %v", second)
	}
	asked(t, two())
}

func TestSameAnswersEachTime(t *testing.T) {
	for seed := range uint64(200) {
		o := anyObject(source(500000+seed), true)
		want, wantErrno := scope.Uses(o)
		for range 5 {
			uses(t, copied(o), want, wantErrno)
			of(t, copied(o), scope.Of(o)...)
		}
	}
}
