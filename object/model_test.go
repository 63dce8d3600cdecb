package object_test

import (
	"math"
	"math/rand/v2"
	"slices"
	"strings"
	"testing"

	"bursar/api"
	"bursar/object"
)

// wrong numbers and texts, some of them right.
func anyNumber(r *rand.Rand) int64 {
	return pick[int64](r, -2, -1, 0, 1, 9, 10, 256, top, top+1, math.MaxInt64, math.MinInt64)
}

func anyText(r *rand.Rand) string {
	return pick(r, "", "a", "b", "main", "X", "a/b", "/", "/a", "count", "requests.a", "requests.", "a..b", "-", long(32), long(33), long(48), long(49), "\x00", "\xff")
}

// bendAmounts changes a list of amounts at one place.
func bendAmounts(r *rand.Rand, l []api.Amount) []api.Amount {
	l = slices.Clone(l)
	if len(l) == 0 || r.IntN(5) == 0 {
		return append(l, api.Amount{Name: anyText(r), Value: anyNumber(r)})
	}
	i := r.IntN(len(l))
	switch r.IntN(4) {
	case 0:
		l[i].Name = anyText(r)
	case 1:
		l[i].Value = anyNumber(r)
	case 2:
		l = append(l, l[i])
	case 3:
		k := r.IntN(len(l))
		l[i], l[k] = l[k], l[i]
	}
	return l
}

func bendObject(r *rand.Rand, o api.Object) api.Object {
	o.Labels, o.Parts = slices.Clone(o.Labels), slices.Clone(o.Parts)
	p := &o.Parts[r.IntN(len(o.Parts))]
	switch r.IntN(12) {
	case 0:
		o.Path = anyText(r)
	case 1:
		o.Name = anyText(r)
	case 2:
		o.Priority = int(anyNumber(r))
	case 3:
		o.Deadline = anyNumber(r)
	case 4:
		o.Version = anyNumber(r)
	case 5:
		o.Labels = append(o.Labels, api.Label{Key: anyText(r), Value: anyText(r)})
	case 6:
		slices.Reverse(o.Labels)
	case 7:
		slices.Reverse(o.Parts)
	case 8:
		o.Parts = append(o.Parts, api.Part{Name: anyText(r)})
	case 9:
		p.Name = anyText(r)
	case 10:
		p.Requests = bendAmounts(r, p.Requests)
	case 11:
		p.Limits = bendAmounts(r, p.Limits)
	}
	return o
}

func bendQuota(r *rand.Rand, q api.Quota) api.Quota {
	switch r.IntN(5) {
	case 0:
		q.Path = anyText(r)
	case 1:
		q.Name = anyText(r)
	case 2:
		q.Scope.Kind = int(anyNumber(r))
	case 3:
		q.Scope.Arg = int(anyNumber(r))
	case 4:
		q.Hard = bendAmounts(r, q.Hard)
	}
	return q
}

func bendLimit(r *rand.Rand, l api.LimitRange) api.LimitRange {
	l.Rules = slices.Clone(l.Rules)
	u := &l.Rules[r.IntN(len(l.Rules))]
	switch r.IntN(9) {
	case 0:
		l.Path = anyText(r)
	case 1:
		l.Name = anyText(r)
	case 2:
		u.Resource = anyText(r)
	case 3:
		slices.Reverse(l.Rules)
	default:
		*pick(r, &u.Min, &u.Max, &u.Default, &u.Request, &u.Ratio) = anyNumber(r)
	}
	return l
}

func bendBinding(r *rand.Rand, b api.Binding) api.Binding {
	if r.IntN(4) == 0 {
		b.Verb = int(anyNumber(r))
		return b
	}
	*pick(r, &b.Path, &b.Name, &b.Subject) = anyText(r)
	return b
}

// Any records, right ones and bent ones, are valid, encoded and decoded as the chapter's words have it.
func TestAnyRecords(t *testing.T) {
	r := source(1)
	var right, wrong int
	count := func(errno api.Errno) {
		if errno == api.OK {
			right++
		} else {
			wrong++
		}
	}
	for range 8000 {
		o, q, l, b := anyObject(r), anyQuota(r), anyLimit(r), anyBinding(r)
		for _, errno := range []api.Errno{objects.check(t, o), quotas.check(t, q), limits.check(t, l), bindings.check(t, b)} {
			if errno != api.OK {
				t.Fatalf("one of %+v, %+v, %+v, %+v should be valid", o, q, l, b)
			}
		}
		count(objects.check(t, bendObject(r, o)))
		count(quotas.check(t, bendQuota(r, q)))
		count(limits.check(t, bendLimit(r, l)))
		count(bindings.check(t, bendBinding(r, b)))
	}
	if right < 1000 || wrong < 1000 {
		t.Errorf("%d right, %d wrong", right, wrong)
	}
}

// anyForm: the bytes of some record, valid or not.
func anyForm(r *rand.Rand) string {
	switch r.IntN(8) {
	case 0:
		return objectForm(bendObject(r, anyObject(r)))
	case 1:
		return quotaForm(bendQuota(r, anyQuota(r)))
	case 2:
		return limitForm(bendLimit(r, anyLimit(r)))
	case 3:
		return bindingForm(bendBinding(r, anyBinding(r)))
	case 4:
		return objectForm(anyObject(r))
	case 5:
		return quotaForm(anyQuota(r))
	case 6:
		return limitForm(anyLimit(r))
	}
	return bindingForm(anyBinding(r))
}

// bendText changes a text at one place or two.
func bendText(r *rand.Rand, s string) string {
	for range 1 + r.IntN(2) {
		b := []byte(s)
		at := r.IntN(len(b) + 1)
		switch r.IntN(5) {
		case 0:
			s = s[:at]
		case 1:
			s = s[:at] + string([]byte{byte(r.Uint32())}) + s[at:]
		case 2:
			if at < len(b) {
				s = s[:at] + s[at+1:]
			}
		case 3:
			if at < len(b) {
				b[at] = byte(r.Uint32())
				s = string(b)
			}
		case 4:
			if at < len(b) {
				b[at] += pick[byte](r, 1, 255, 128)
				s = string(b)
			}
		}
	}
	return s
}

func TestAnyTexts(t *testing.T) {
	r := source(2)
	taken := 0
	for range 20000 {
		s := anyForm(r)
		taken += checkAll(t, s)
		taken += checkAll(t, bendText(r, s))
	}
	if taken < 1000 {
		t.Errorf("%d texts were taken", taken)
	}
}

// Every byte of a few records' bytes is set to every value; every beginning is asked.
func TestTextsNearby(t *testing.T) {
	o := small()
	o.Labels = []api.Label{{Key: "a"}, {Key: "b", Value: "c"}}
	o.Parts[0].Limits = amounts("cpu", 600, "mem", 0)
	o.Parts = append(o.Parts, part("z"))
	q, l, b := smallQuota(), smallLimit(), smallBinding()
	l.Rules = append(l.Rules, api.Rule{Resource: "d", Max: 64, Default: math.MaxInt64})
	for _, s := range []string{objectForm(small()), objectForm(o), quotaForm(q), limitForm(l), bindingForm(b)} {
		for at := range len(s) {
			checkAll(t, s[:at])
			for v := range 256 {
				checkAll(t, s[:at]+string([]byte{byte(v)})+s[at+1:])
				checkAll(t, s[:at]+string([]byte{byte(v)})+s[at:])
			}
		}
		if checkAll(t, s) != 1 || checkAll(t, s+"\x00") != 0 {
			t.Errorf("%q: taken with a byte more, or not at all", s)
		}
	}
}

// normal tells what Normal should answer, from the chapter's words: sums by maps, orders by sorting keys.
func normal(o api.Object) (api.Object, api.Errno) {
	slices.SortStableFunc(o.Labels, func(a, b api.Label) int { return strings.Compare(a.Key, b.Key) })
	slices.SortStableFunc(o.Parts, func(a, b api.Part) int { return strings.Compare(a.Name, b.Name) })
	for i, p := range o.Parts {
		requests, first := summed(p.Requests)
		limits, second := summed(p.Limits)
		if !first || !second {
			return api.Object{}, api.ErrObject
		}
		o.Parts[i].Requests, o.Parts[i].Limits = requests, limits
	}
	if !isObject(o) {
		return api.Object{}, api.ErrObject
	}
	if len(objectForm(o)) > 8192 {
		return api.Object{}, api.ErrLong
	}
	return o, api.OK
}

func summed(l []api.Amount) ([]api.Amount, bool) {
	sums := map[string]uint64{}
	for _, a := range l {
		if !isResource(a.Name) || a.Value < 0 || sums[a.Name]+uint64(a.Value) > math.MaxInt64 {
			return nil, false
		}
		sums[a.Name] += uint64(a.Value)
	}
	var sum []api.Amount
	for name, value := range sums {
		sum = append(sum, api.Amount{Name: name, Value: int64(value)})
	}
	slices.SortFunc(sum, func(a, b api.Amount) int { return strings.Compare(a.Name, b.Name) })
	return sum, len(sum) <= 16
}

func checkNormal(t *testing.T, o api.Object) (api.Object, api.Errno) {
	t.Helper()
	want, wantErrno := normal(plain(o).(api.Object))
	got, errno := object.Normal(o)
	if errno != wantErrno || !same(got, want) {
		t.Fatalf("Normal(%+v) = %+v, %d, want %+v, %d", o, got, errno, want, wantErrno)
	}
	return got, errno
}

func TestNormalExamples(t *testing.T) {
	o := small()
	o.Labels = []api.Label{{Key: "z", Value: "1"}, {Key: "y", Value: "2"}}
	o.Parts = []api.Part{part("b"), part("a", "mem", 1, "cpu", 2, "mem", 3)}
	want := small()
	want.Labels = []api.Label{{Key: "y", Value: "2"}, {Key: "z", Value: "1"}}
	want.Parts = []api.Part{part("a", "cpu", 2, "mem", 4), part("b")}
	if n, errno := object.Normal(o); errno != api.OK || !same(n, want) {
		t.Errorf("Normal = %+v, %d", n, errno)
	}
	for i, change := range []func(*api.Object){
		func(o *api.Object) { o.Parts[0].Name = "a" },
		func(o *api.Object) { o.Labels[0].Key = "y" },
		func(o *api.Object) { o.Labels[0] = o.Labels[1] },
		func(o *api.Object) { o.Parts[1] = part("a", "cpu", math.MaxInt64, "cpu", 1) },
		func(o *api.Object) { o.Parts[1] = api.Part{Name: "a", Limits: amounts("cpu", math.MaxInt64, "cpu", 1)} },
		func(o *api.Object) { o.Parts[0].Limits = amounts("cpu", -1) },
		func(o *api.Object) { o.Parts[0].Limits = amounts("cpu", 2, "cpu", -1) },
		func(o *api.Object) { o.Parts[0].Requests = amounts("CPU", 1) },
		func(o *api.Object) { o.Parts[0].Requests = amountsOf(names(17, 1), 1) },
		func(o *api.Object) { o.Parts[0].Limits = amountsOf(names(17, 1), 1) },
		func(o *api.Object) { o.Parts = nil },
		func(o *api.Object) { o.Parts = partsOf(names(9, 1)) },
		func(o *api.Object) { o.Labels = labelsOf(names(17, 1)) },
		func(o *api.Object) { o.Name = "" },
		func(o *api.Object) { o.Version = -1 },
	} {
		n := plain(o).(api.Object)
		change(&n)
		if m, errno := checkNormal(t, n); errno != api.ErrObject || !same(m, api.Object{}) {
			t.Errorf("Normal %d = %+v, %d", i, m, errno)
		}
	}
	// A hundred amounts of sixteen names are few enough.
	many := plain(want).(api.Object)
	for i := range 100 {
		many.Parts[0].Limits = append(many.Parts[0].Limits, api.Amount{Name: string(rune('p' - i%16)), Value: int64(i)})
	}
	if n, errno := checkNormal(t, many); errno != api.OK || len(n.Parts[0].Limits) != 16 {
		t.Errorf("Normal of many = %+v, %d", n, errno)
	}
}

// shuffled: the object with its lists in another order and some of its amounts cut in two.
func shuffled(r *rand.Rand, o api.Object) api.Object {
	o = plain(o).(api.Object)
	r.Shuffle(len(o.Labels), func(i, k int) { o.Labels[i], o.Labels[k] = o.Labels[k], o.Labels[i] })
	r.Shuffle(len(o.Parts), func(i, k int) { o.Parts[i], o.Parts[k] = o.Parts[k], o.Parts[i] })
	for i := range o.Parts {
		for _, l := range []*[]api.Amount{&o.Parts[i].Requests, &o.Parts[i].Limits} {
			for k, a := range *l {
				if a.Value >= 0 && r.IntN(2) == 0 {
					half := r.Int64N(a.Value/2 + 1)
					(*l)[k].Value -= half
					*l = append(*l, api.Amount{Name: a.Name, Value: half})
				}
			}
			r.Shuffle(len(*l), func(a, b int) { (*l)[a], (*l)[b] = (*l)[b], (*l)[a] })
		}
	}
	return o
}

func TestNormalOfAnyObjects(t *testing.T) {
	r := source(3)
	for range 8000 {
		o := anyObject(r)
		for _, handed := range []api.Object{o, shuffled(r, o)} {
			if n, errno := checkNormal(t, handed); errno != api.OK || !same(n, o) {
				t.Fatalf("Normal(%+v) = %+v, %d, want %+v", handed, n, errno, o)
			}
		}
		bent := shuffled(r, bendObject(r, o))
		n, errno := checkNormal(t, bendObject(r, bent))
		if errno == api.OK {
			if again, errno := object.Normal(n); errno != api.OK || !same(again, n) {
				t.Fatalf("Normal of %+v = %+v, %d", n, again, errno)
			}
		}
	}
}
