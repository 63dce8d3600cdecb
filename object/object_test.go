package object_test

import (
	"math"
	"slices"
	"testing"

	"bursar/api"
	"bursar/dev"
	"bursar/object"
	"bursar/store"
)

func TestExamplesOfBytes(t *testing.T) {
	if s, errno := object.EncodeObject(small()); errno != api.OK || s != unhex(t, "4f 01 02 2f 61 01 78 00 03 00 01 04 6d 61 69 6e 01 03 63 70 75 f4 03 00 07") {
		t.Errorf("EncodeObject = %x, %d", s, errno)
	}
	if s, errno := object.EncodeQuota(smallQuota()); errno != api.OK || s != unhex(t, "51 01 01 2f 01 71 05 09 03 05 63 6f 75 6e 74 88 27 0a 6c 69 6d 69 74 73 2e 63 70 75 01 0c 72 65 71 75 65 73 74 73 2e 63 70 75 02") {
		t.Errorf("EncodeQuota = %x, %d", s, errno)
	}
	if s, errno := object.EncodeLimit(smallLimit()); errno != api.OK || s != unhex(t, "4c 01 02 2f 61 01 6c 01 03 63 70 75 02 01 01 01 01") {
		t.Errorf("EncodeLimit = %x, %d", s, errno)
	}
	if s, errno := object.EncodeBinding(smallBinding()); errno != api.OK || s != unhex(t, "42 01 02 2f 61 01 62 03 61 6e 6e 02") {
		t.Errorf("EncodeBinding = %x, %d", s, errno)
	}
}

// changed asks for a record as each change leaves it, and tells by its answer whether it should be valid.
func changed[T any](t *testing.T, f family[T], make func() T, want api.Errno, changes ...func(*T)) {
	t.Helper()
	for i, change := range changes {
		record := make()
		change(&record)
		if errno := f.valid(record); errno != want {
			t.Errorf("%s %d: Valid(%+v) = %d, want %d", f.letter, i, record, errno, want)
		}
		f.check(t, record)
	}
}

var (
	badNames = []string{"", "X", "a/b", "-a", "a-", "a.b", "a b", "\x00", "\xff", long(33)}
	badPaths = []string{"", "a", "//", "/a/", "/A", "/a//b", "/a/b/c/d/e/f/g/h/i", "/" + long(32) + "/" + long(31)}
)

func TestObjectsThatStand(t *testing.T) {
	changed(t, objects, small, api.OK,
		func(o *api.Object) {},
		func(o *api.Object) { o.Path, o.Name = "/", long(32) },
		func(o *api.Object) { o.Path = "/" + long(32) + "/" + long(30) },
		func(o *api.Object) { o.Path = "/a/b/c/d/e/f/g/h" },
		func(o *api.Object) { o.Priority = 0 },
		func(o *api.Object) { o.Priority = 9 },
		func(o *api.Object) { o.Deadline, o.Version = top, top },
		func(o *api.Object) { o.Deadline, o.Version = 0, 0 },
		func(o *api.Object) { o.Labels = []api.Label{{Key: "a"}, {Key: "b", Value: "c"}} },
		func(o *api.Object) { o.Labels = []api.Label{} },
		func(o *api.Object) { o.Labels = labelsOf(names(16, 32)) },
		func(o *api.Object) { o.Parts = partsOf(names(8, 32)) },
		func(o *api.Object) { o.Parts[0].Requests = nil },
		func(o *api.Object) { o.Parts[0].Requests, o.Parts[0].Limits = []api.Amount{}, []api.Amount{} },
		func(o *api.Object) { o.Parts[0].Requests = amountsOf(names(16, 48), math.MaxInt64) },
		func(o *api.Object) { o.Parts[0].Limits = amountsOf(names(16, 48), math.MaxInt64) },
		func(o *api.Object) { o.Parts[0].Requests = amounts("cpu", 0, "example.com.gpu", 1) },
	)
}

func TestObjectsThatDoNot(t *testing.T) {
	o := func(change func(*api.Object)) { t.Helper(); changed(t, objects, small, api.ErrObject, change) }
	for _, name := range badNames {
		o(func(o *api.Object) { o.Name = name })
		o(func(o *api.Object) { o.Parts[0].Name = name })
		o(func(o *api.Object) { o.Labels = []api.Label{{Key: name}} })
		if name != "" {
			o(func(o *api.Object) { o.Labels = []api.Label{{Key: "a", Value: name}} })
		}
	}
	for _, path := range badPaths {
		o(func(o *api.Object) { o.Path = path })
	}
	for _, n := range []int{10, -1, 256, 259, math.MaxInt, math.MinInt} {
		o(func(o *api.Object) { o.Priority = n })
	}
	for _, n := range []int64{-1, top + 1, math.MaxInt64, math.MinInt64} {
		o(func(o *api.Object) { o.Deadline = n })
		o(func(o *api.Object) { o.Version = n })
	}
	o(func(o *api.Object) { o.Parts = nil })
	o(func(o *api.Object) { o.Parts = partsOf(names(9, 1)) })
	o(func(o *api.Object) { o.Parts = partsOf([]string{"main", "main"}) })
	o(func(o *api.Object) { o.Parts = partsOf([]string{"b", "a"}) })
	o(func(o *api.Object) { o.Parts = partsOf([]string{"a", "c", "b"}) })
	o(func(o *api.Object) { o.Labels = labelsOf([]string{"b", "a"}) })
	o(func(o *api.Object) { o.Labels = labelsOf([]string{"a", "a"}) })
	o(func(o *api.Object) { o.Labels = labelsOf(names(17, 1)) })
	for _, l := range [][]api.Amount{
		amounts("mem", 1, "cpu", 1), amounts("cpu", 1, "cpu", 1), amounts("cpu", -1), amounts("CPU", 1), amounts("", 1),
		amounts("a..b", 1), amounts("a.", 1), amounts(long(49), 1), amountsOf(names(17, 1), 1), amounts("cpu", math.MinInt),
	} {
		o(func(o *api.Object) { o.Parts[0].Requests = l })
		o(func(o *api.Object) { o.Parts[0].Limits = l })
		o(func(o *api.Object) { o.Parts = append(o.Parts, api.Part{Name: "z", Limits: l}) })
	}
	changed(t, objects, func() api.Object { return api.Object{} }, api.ErrObject, func(*api.Object) {})
}

func labelsOf(keys []string) []api.Label {
	var l []api.Label
	for _, key := range keys {
		l = append(l, api.Label{Key: key, Value: long(32)})
	}
	return l
}

func partsOf(names []string) []api.Part {
	var l []api.Part
	for _, name := range names {
		l = append(l, api.Part{Name: name})
	}
	return l
}

// huge: an object of 8 parts with all the amounts that there may be.
func huge() api.Object {
	o := small()
	o.Parts = partsOf(names(8, 1))
	for i := range o.Parts {
		o.Parts[i].Requests = amountsOf(names(16, 48), 5)
		o.Parts[i].Limits = amountsOf(names(16, 48), 5)
	}
	return o
}

// ofBytes: an object whose bytes are n; n is near the most that there may be.
func ofBytes(t *testing.T, n int) api.Object {
	t.Helper()
	o := huge()
	for i := range o.Parts {
		o.Parts[i].Limits = o.Parts[i].Limits[:3]
	}
	last := &o.Parts[7]
	last.Limits = nil
	for left := n - len(objectForm(o)); left > 0; left = n - len(objectForm(o)) {
		size := min(left-2, 48)
		if left > 50 && left < 60 {
			size = 20
		}
		last.Limits = append(last.Limits, api.Amount{Name: string(rune('a'+len(last.Limits))) + long(size-1), Value: 1})
	}
	if got := len(objectForm(o)); got != n || !isObject(o) {
		t.Fatalf("made %d bytes, not %d, of %+v", got, n, o)
	}
	return o
}

func TestObjectsThatAreTooLong(t *testing.T) {
	changed(t, objects, huge, api.ErrLong, func(*api.Object) {})
	if _, errno := object.Normal(huge()); errno != api.ErrLong {
		t.Errorf("Normal: %d", errno)
	}
	for _, n := range []int{8100, 8190, 8191, 8192} {
		changed(t, objects, func() api.Object { return ofBytes(t, n) }, api.OK, func(*api.Object) {})
	}
	for _, n := range []int{8193, 8194, 8250} {
		o := ofBytes(t, n)
		changed(t, objects, func() api.Object { return o }, api.ErrLong, func(*api.Object) {})
		if got, errno := object.Normal(o); errno != api.ErrLong || !same(got, api.Object{}) {
			t.Errorf("Normal of %d bytes: %d", n, errno)
		}
		if got, errno := object.DecodeObject(objectForm(o)); errno != api.ErrBad || !same(got, api.Object{}) {
			t.Errorf("Decode of %d bytes: %d", n, errno)
		}
	}
	// What doesn't stand is told ahead of what is too long.
	changed(t, objects, huge, api.ErrObject, func(o *api.Object) { o.Version = -1 }, func(o *api.Object) { o.Parts[7].Limits[15].Value = -1 })
}

func TestQuotas(t *testing.T) {
	ok := func(change func(*api.Quota)) { t.Helper(); changed(t, quotas, smallQuota, api.OK, change) }
	no := func(change func(*api.Quota)) { t.Helper(); changed(t, quotas, smallQuota, api.ErrObject, change) }
	for kind := -2; kind < 12; kind++ {
		for arg := -2; arg < 12; arg++ {
			ask := no
			if kind == 5 && arg >= 0 && arg <= 9 || kind >= 0 && kind <= 4 && arg == 0 {
				ask = ok
			}
			ask(func(q *api.Quota) { q.Scope = api.Scope{Kind: kind, Arg: arg} })
		}
	}
	for _, n := range []int{256, 257, 261, math.MaxInt, math.MinInt} {
		no(func(q *api.Quota) { q.Scope = api.Scope{Kind: n} })
		no(func(q *api.Quota) { q.Scope = api.Scope{Kind: 5, Arg: n} })
		no(func(q *api.Quota) { q.Scope = api.Scope{Kind: 0, Arg: n} })
	}
	for _, name := range []string{"count", "requests.cpu", "limits.cpu", "requests.count", "limits.requests.a", "requests." + long(48), "limits." + long(48)} {
		ok(func(q *api.Quota) { q.Hard = amounts(name, 0) })
		ok(func(q *api.Quota) { q.Hard = amounts(name, math.MaxInt64) })
		no(func(q *api.Quota) { q.Hard = amounts(name, -1) })
		no(func(q *api.Quota) { q.Hard = amounts(name, 1, name, 1) })
	}
	for _, name := range []string{"", "cpu", "requests.", "requests", "limits.", "limits", "limit.cpu", "count.cpu", "counts", "Count", "requests.CPU", "requests..a", "requests.-", "limits.a.", ".count", "requestscpu", " count", "requests." + long(49), "limits." + long(49)} {
		no(func(q *api.Quota) { q.Hard = amounts(name, 1) })
	}
	no(func(q *api.Quota) { q.Hard = nil })
	no(func(q *api.Quota) { q.Hard = []api.Amount{} })
	no(func(q *api.Quota) { q.Hard = amounts("limits.cpu", 1, "count", 1) })
	no(func(q *api.Quota) { q.Hard = amounts("count", 1, "requests.cpu", 1, "limits.cpu", 1) })
	most := []string{"count"}
	for _, name := range names(16, 48) {
		most = append(most, "limits."+name)
	}
	ok(func(q *api.Quota) { q.Hard = amountsOf(most[:16], math.MaxInt64) })
	ok(func(q *api.Quota) { q.Hard = amountsOf(most[1:], math.MaxInt64) })
	no(func(q *api.Quota) { q.Hard = amountsOf(most, 1) })
	for _, name := range badNames {
		no(func(q *api.Quota) { q.Name = name })
	}
	for _, path := range badPaths {
		no(func(q *api.Quota) { q.Path = path })
	}
	changed(t, quotas, func() api.Quota { return api.Quota{} }, api.ErrObject, func(*api.Quota) {})
}

func TestLimits(t *testing.T) {
	ok := func(change func(*api.LimitRange)) { t.Helper(); changed(t, limits, smallLimit, api.OK, change) }
	no := func(change func(*api.LimitRange)) { t.Helper(); changed(t, limits, smallLimit, api.ErrObject, change) }
	for i := range 5 {
		field := func(l *api.LimitRange) *int64 {
			r := &l.Rules[0]
			return []*int64{&r.Min, &r.Max, &r.Default, &r.Request, &r.Ratio}[i]
		}
		for _, v := range []int64{-1, 0, 1, 63, 64, math.MaxInt64 - 1, math.MaxInt64} {
			ok(func(l *api.LimitRange) { *field(l) = v })
		}
		for _, v := range []int64{-2, -64, math.MinInt64, math.MinInt64 + 1} {
			no(func(l *api.LimitRange) { *field(l) = v })
			no(func(l *api.LimitRange) { l.Rules = append([]api.Rule{{Resource: "a"}}, l.Rules...); l.Rules[0].Max = v })
		}
	}
	for _, name := range []string{"cpu", "example.com.gpu", "count", long(48)} {
		ok(func(l *api.LimitRange) { l.Rules[0].Resource = name })
	}
	for _, name := range []string{"", "CPU", "a..b", "-a", "a-", ".", long(49)} {
		no(func(l *api.LimitRange) { l.Rules[0].Resource = name })
	}
	rules := func(l []string) []api.Rule {
		var rules []api.Rule
		for _, name := range l {
			rules = append(rules, api.Rule{Resource: name, Min: math.MaxInt64, Max: math.MaxInt64, Default: math.MaxInt64, Request: math.MaxInt64, Ratio: math.MaxInt64})
		}
		return rules
	}
	ok(func(l *api.LimitRange) { l.Rules = rules(names(16, 48)) })
	no(func(l *api.LimitRange) { l.Rules = rules(names(17, 48)) })
	no(func(l *api.LimitRange) { l.Rules = nil })
	no(func(l *api.LimitRange) { l.Rules = rules([]string{"b", "a"}) })
	no(func(l *api.LimitRange) { l.Rules = rules([]string{"a", "a"}) })
	for _, name := range badNames {
		no(func(l *api.LimitRange) { l.Name = name })
	}
	for _, path := range badPaths {
		no(func(l *api.LimitRange) { l.Path = path })
	}
	changed(t, limits, func() api.LimitRange { return api.LimitRange{} }, api.ErrObject, func(*api.LimitRange) {})
}

func TestBindings(t *testing.T) {
	ok := func(change func(*api.Binding)) { t.Helper(); changed(t, bindings, smallBinding, api.OK, change) }
	no := func(change func(*api.Binding)) { t.Helper(); changed(t, bindings, smallBinding, api.ErrObject, change) }
	for verb := range 4 {
		ok(func(b *api.Binding) { b.Verb = verb })
	}
	for _, verb := range []int{-1, 4, 256, 258, math.MaxInt, math.MinInt} {
		no(func(b *api.Binding) { b.Verb = verb })
	}
	ok(func(b *api.Binding) { b.Path, b.Name, b.Subject = "/"+long(32)+"/"+long(30), long(32), long(32) })
	for _, name := range badNames {
		no(func(b *api.Binding) { b.Name = name })
		no(func(b *api.Binding) { b.Subject = name })
	}
	for _, path := range badPaths {
		no(func(b *api.Binding) { b.Path = path })
	}
	changed(t, bindings, func() api.Binding { return api.Binding{} }, api.ErrObject, func(*api.Binding) {})
}

func TestDecodeRefuses(t *testing.T) {
	bytes := objectForm(small())
	name := func(s string) string { o := small(); o.Parts[0].Name = s; return objectForm(o) }
	for _, s := range []string{"", "O", "O\x01", quotaForm(smallQuota()), bytes + "\x00", bytes + bytes, bytes[:len(bytes)-1], "O\x02" + bytes[2:], "Q" + bytes[1:], "o" + bytes[1:], name("Main"), name("")} {
		if o, errno := object.DecodeObject(s); errno != api.ErrBad || !same(o, api.Object{}) {
			t.Errorf("DecodeObject(%q) = %+v, %d", s, o, errno)
		}
		checkAll(t, s)
	}
	// Numbers in a longer form than they need, and above what an int64 has.
	for _, s := range []string{"\x87\x00", "\xff\xff\xff\xff\xff\xff\xff\xff\xff\x01", "\x80\x80\x80\x80\x80\x80\x80\x80\x80\x01", "\x81\x80\x80\x80\x80\x80\x80\x80\x10"} {
		if _, errno := object.DecodeObject(bytes[:len(bytes)-1] + s); errno != api.ErrBad {
			t.Errorf("a version of %x: %d", s, errno)
		}
	}
	if o, errno := object.DecodeObject(bytes[:len(bytes)-1] + "\x80\x80\x80\x80\x80\x80\x80\x80\x10"); errno != api.OK || o.Version != top {
		t.Errorf("the greatest version: %d, %d", o.Version, errno)
	}
}

// worst tells the greatest records of each kind, as entries of a store.
func worst(t *testing.T) []api.Change {
	t.Helper()
	path, name := "/"+long(32)+"/"+long(30), long(32)
	q := api.Quota{Path: path, Name: name, Scope: api.Scope{Kind: 5, Arg: 9}}
	l := api.LimitRange{Path: path, Name: name}
	for _, resource := range names(16, 48) {
		q.Hard = append(q.Hard, api.Amount{Name: "requests." + resource, Value: math.MaxInt64})
		l.Rules = append(l.Rules, api.Rule{Resource: resource, Min: math.MaxInt64, Max: math.MaxInt64, Default: math.MaxInt64, Request: math.MaxInt64, Ratio: math.MaxInt64})
	}
	o := ofBytes(t, 8192-len(path)-len(name)+3)
	o.Path, o.Name = path, name
	values := make([]string, 5)
	errnos := make([]api.Errno, 5)
	values[1], errnos[1] = object.EncodeQuota(q)
	values[2], errnos[2] = object.EncodeLimit(l)
	values[3], errnos[3] = object.EncodeObject(o)
	values[4], errnos[4] = object.EncodeBinding(api.Binding{Path: path, Name: name, Subject: name, Verb: 3})
	var changes []api.Change
	for kind, value := range values {
		of := name
		if kind == api.KindNode {
			of = ""
		}
		key, errno := object.Key(kind, path, of)
		if errno != api.OK || errnos[kind] != api.OK {
			t.Fatalf("kind %d: key %d, bytes %d", kind, errno, errnos[kind])
		}
		changes = append(changes, api.Change{Key: key, Value: value})
	}
	return changes
}

func TestTheGreatestFitAStore(t *testing.T) {
	changes := worst(t)
	for i, c := range changes {
		want := 103
		if i == api.KindNode {
			want = 71
		}
		if len(c.Key) != want || len(c.Value) > api.MaxValue {
			t.Errorf("kind %d: a key of %d bytes, a value of %d", i, len(c.Key), len(c.Value))
		}
	}
	if n := len(changes[api.KindObject].Value); n != 8192 {
		t.Errorf("the object has %d bytes", n)
	}
	d, errno := dev.New(512)
	if errno != api.OK {
		t.Fatalf("dev.New: %d", errno)
	}
	if errno := store.Format(d, 64); errno != api.OK {
		t.Fatalf("Format: %d", errno)
	}
	s, errno := store.Open(d)
	if errno != api.OK {
		t.Fatalf("Open: %d", errno)
	}
	if errno := s.Apply(changes); errno != api.OK {
		t.Fatalf("Apply: %d", errno)
	}
	for _, c := range changes {
		if value, there, errno := s.Get(c.Key); value != c.Value || !there || errno != api.OK {
			t.Errorf("Get(%q) = %q, %v, %d", c.Key, value, there, errno)
		}
	}
}

// The lists of what is handed in, with spare room, and of what is answered are written full: nothing else may change.
func TestNothingIsShared(t *testing.T) {
	amountsIn := func() []api.Amount { return append(make([]api.Amount, 0, 8), amounts("mem", 1, "cpu", 2, "mem", 3)...) }
	o := small()
	o.Labels = append(make([]api.Label, 0, 8), api.Label{Key: "z", Value: "1"}, api.Label{Key: "y", Value: "2"})
	o.Parts = append(make([]api.Part, 0, 8), api.Part{Name: "b", Requests: amountsIn(), Limits: amountsIn()}, api.Part{Name: "a", Requests: amountsIn(), Limits: amountsIn()})
	before := wholeOf(o)
	n, errno := object.Normal(o)
	if errno != api.OK || !same(wholeOf(o), before) {
		t.Fatalf("Normal: %d; handed in: %+v, then %+v", errno, before, wholeOf(o))
	}
	want := plain(n)
	spoil(o)
	if !same(n, want) {
		t.Errorf("Normal's answer changed with what was handed in: %+v", n)
	}
	s, errno := object.EncodeObject(n)
	a, first := object.DecodeObject(s)
	b, second := object.DecodeObject(s)
	if errno != api.OK || first != api.OK || second != api.OK {
		t.Fatalf("Encode: %d, Decode: %d, %d", errno, first, second)
	}
	spoil(a)
	if !same(b, n) || !same(n, want) {
		t.Errorf("a Decode's answer changed with another's: %+v", b)
	}
	// No two lists of one answer share anything.
	n.Parts[0].Requests = append(n.Parts[0].Requests, api.Amount{Name: "zz"})
	n.Labels = append(n.Labels, api.Label{Key: "zz"})
	n.Parts[0].Requests[0] = api.Amount{Name: "spoilt"}
	if !slices.Equal(n.Parts[0].Limits, b.Parts[0].Limits) || !slices.Equal(n.Parts[1].Requests, b.Parts[1].Requests) {
		t.Errorf("lists of one answer share memory: %+v", n)
	}
}

// wholeOf: an object with all the room of its lists.
func wholeOf(o api.Object) api.Object {
	o.Labels = slices.Clone(o.Labels[:cap(o.Labels)])
	o.Parts = slices.Clone(o.Parts[:cap(o.Parts)])
	for i, p := range o.Parts {
		o.Parts[i].Requests = slices.Clone(p.Requests[:cap(p.Requests)])
		o.Parts[i].Limits = slices.Clone(p.Limits[:cap(p.Limits)])
	}
	return o
}

func spoil(o api.Object) {
	for _, p := range o.Parts {
		for _, l := range [][]api.Amount{p.Requests[:cap(p.Requests)], p.Limits[:cap(p.Limits)]} {
			for i := range l {
				l[i] = api.Amount{Name: "spoilt", Value: -1}
			}
		}
	}
	for i := range o.Parts {
		o.Parts[i] = api.Part{Name: "spoilt"}
	}
	for i := range o.Labels {
		o.Labels[i] = api.Label{Key: "spoilt"}
	}
}

func TestListsOfOthersAreNew(t *testing.T) {
	q, l := smallQuota(), smallLimit()
	a, _ := object.DecodeQuota(quotaForm(q))
	b, _ := object.DecodeLimit(limitForm(l))
	a.Hard[0], b.Rules[0] = api.Amount{}, api.Rule{}
	c, first := object.DecodeQuota(quotaForm(q))
	d, second := object.DecodeLimit(limitForm(l))
	if first != api.OK || second != api.OK || !same(c, q) || !same(d, l) {
		t.Errorf("Decode: %+v, %d; %+v, %d", c, first, d, second)
	}
	room := append(make([]api.Amount, 0, 8), q.Hard...)
	whole := slices.Clone(room[:cap(room)])
	q.Hard = room
	object.EncodeQuota(q)
	if !slices.Equal(room[:cap(room)], whole) {
		t.Errorf("EncodeQuota wrote into what it was given: %v", room[:cap(room)])
	}
}
