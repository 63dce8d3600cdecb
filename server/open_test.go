package server_test

import (
	"fmt"
	"math"
	"slices"
	"strings"
	"testing"

	"bursar/admit"
	"bursar/api"
	"bursar/dev"
	"bursar/object"
	"bursar/server"
	"bursar/store"
)

// whole: a state with something of each kind.
func whole() api.Dump {
	return api.Dump{
		Nodes:    []string{"/a", "/a/b"},
		Quotas:   []api.Quota{hard("/a", "q", "count", 2000)},
		Limits:   []api.LimitRange{giving("/a/b", "l", 1)},
		Objects:  []api.Object{at(obj("/a", "x", 0, 5), 3), at(obj("/a/b", "x", 1, -1), 1<<60)},
		Bindings: []api.Binding{bound("/", "b", "ann", 0), bound("/a/b", "b", "ann", 3)},
	}
}

// P24.1: what is the records of some state opens, with its version and no events.
func TestOpenTakesRecords(t *testing.T) {
	d := laid(t, 128, 8, 77, entriesOf(t, whole())...)
	s := open(t, d)
	w, errno := admit.Of(whole())
	if errno != api.OK {
		t.Fatalf("Of: %d", errno)
	}
	want := w.Dump()
	want.Version, want.Bindings = 77, whole().Bindings
	if got := dumped(t, s); text(got) != text(want) {
		t.Errorf("Dump is %+v, want %+v", got, want)
	}
	is(t, s, root(watching("/", 77, 1)), ok(77))
	is(t, s, root(watching("/", 76, 1)), no(api.ErrGone, 77))
	is(t, s, as("ann", get("/a", "x")), api.Reply{Version: 77, Objects: []api.Object{at(obj("/a", "x", 0, 5), 3)}})
	is(t, s, root(nodeAdd("/c")), ok(78))
}

// value tells a record's bytes.
func value(t *testing.T, encoded string, errno api.Errno) string {
	t.Helper()
	if errno != api.OK {
		t.Fatalf("the bytes of a record: %d", errno)
	}
	return encoded
}

// P24.1: one entry that is no record, or records that are no state's, and nothing opens; what the store wrote stays.
func TestOpenRefuses(t *testing.T) {
	q := whole().Quotas[0]
	quota := func(q api.Quota) string { s, e := object.EncodeQuota(q); return value(t, s, e) }
	limit := func(l api.LimitRange) string { s, e := object.EncodeLimit(l); return value(t, s, e) }
	thing := func(o api.Object) string { s, e := object.EncodeObject(o); return value(t, s, e) }
	binding := func(b api.Binding) string { s, e := object.EncodeBinding(b); return value(t, s, e) }
	entry := func(kind int, path, name, value string) api.Entry {
		return api.Entry{Key: keyOf(t, kind, path, name), Value: value}
	}
	cases := map[string][]api.Entry{
		"no key":                         {{Key: "x"}},
		"a key of two parts":             {{Key: "o\x00\x01/a\x00\x01"}},
		"a key of another letter":        {{Key: "x\x00\x01/a\x00\x01x\x00\x01"}},
		"a key with a wrong path":        {{Key: "n\x00\x01/A\x00\x01\x00\x01"}},
		"a key with a name of a node":    {{Key: "n\x00\x01/c\x00\x01x\x00\x01"}},
		"a node with a value":            {entry(api.KindNode, "/c", "", "x")},
		"the root":                       {entry(api.KindNode, "/", "", "")},
		"a node below none":              {entry(api.KindNode, "/c/d", "", "")},
		"a quota without bytes":          {entry(api.KindQuota, "/a", "r", "")},
		"a quota of another path":        {entry(api.KindQuota, "/a", "r", quota(hard("/a/b", "r", "count", 9000)))},
		"a quota of another name":        {entry(api.KindQuota, "/a", "r", quota(hard("/a", "s", "count", 9000)))},
		"a quota with a limit's bytes":   {entry(api.KindQuota, "/a", "r", limit(giving("/a", "r", 1)))},
		"a quota at no node":             {entry(api.KindQuota, "/c", "r", quota(hard("/c", "r", "count", 9000)))},
		"a quota below what is used":     {entry(api.KindQuota, "/", "r", quota(hard("/", "r", "count", 1999)))},
		"a limit range without bytes":    {entry(api.KindLimit, "/a", "r", "")},
		"a limit range of another path":  {entry(api.KindLimit, "/a", "r", limit(giving("/", "r", 1)))},
		"a limit range of another name":  {entry(api.KindLimit, "/a", "r", limit(giving("/a", "s", 1)))},
		"a limit range at no node":       {entry(api.KindLimit, "/c", "r", limit(giving("/c", "r", 1)))},
		"an object without bytes":        {entry(api.KindObject, "/a/b", "y", "")},
		"an object of another path":      {entry(api.KindObject, "/a/b", "y", thing(obj("/", "y", 0, 1)))}, // not in /a, whose quota is full
		"an object of another name":      {entry(api.KindObject, "/", "y", thing(obj("/", "z", 0, 1)))},
		"an object with a byte more":     {entry(api.KindObject, "/", "y", thing(obj("/", "y", 0, 1))+"\x00")},
		"an object at no node":           {entry(api.KindObject, "/c", "y", thing(obj("/c", "y", 0, 1)))},
		"an object above a quota":        {entry(api.KindObject, "/a", "y", thing(obj("/a", "y", 0, 1)))},
		"objects above the most":         {entry(api.KindObject, "/", "y", thing(obj("/", "y", 0, math.MaxInt64-4)))},
		"a binding without bytes":        {entry(api.KindBinding, "/a", "c", "")},
		"a binding of another path":      {entry(api.KindBinding, "/a", "c", binding(bound("/", "c", "ann", 0)))},
		"a binding of another name":      {entry(api.KindBinding, "/a", "c", binding(bound("/a", "d", "ann", 0)))},
		"a binding with a quota's bytes": {entry(api.KindBinding, "/a", "c", quota(q))},
		"a binding at no node":           {entry(api.KindBinding, "/c", "c", binding(bound("/c", "c", "ann", 0)))},
	}
	for i := range 16 {
		name := fmt.Sprint("m", i)
		cases["17 quotas"] = append(cases["17 quotas"], entry(api.KindQuota, "/a", name, quota(hard("/a", name, "count", 9000))))
		cases["17 limit ranges"] = append(cases["17 limit ranges"], entry(api.KindLimit, "/a/b", name, limit(giving("/a/b", name, 1))))
		cases["17 bindings"] = append(cases["17 bindings"], entry(api.KindBinding, "/a/b", name, binding(bound("/a/b", name, "ann", 0))))
	}
	for what, spoilt := range cases {
		d := laid(t, 256, 8, 5, append(entriesOf(t, whole()), spoilt...)...)
		s, errno := server.Open(d)
		if s != nil || errno != api.ErrCorrupt {
			t.Errorf("%s: Open: %v, %d", what, s != nil, errno)
		}
		below, errno := store.Open(d)
		if errno != api.OK || below.Version() != 5 || below.Stat().Generation != 3 || below.Stat().Epoch != 3 {
			t.Errorf("%s: the store behind it: %d", what, errno)
		}
	}
	// One less of each, or the same in its place, opens.
	for what, right := range map[string][]api.Entry{
		"16 quotas":        cases["17 quotas"][:15],
		"16 limit ranges":  cases["17 limit ranges"][:15],
		"16 bindings":      cases["17 bindings"][:15],
		"a quota's number": {entry(api.KindQuota, "/", "r", quota(hard("/", "r", "count", 2000)))},
		"an object":        {entry(api.KindObject, "/", "y", thing(obj("/", "y", 0, 1)))},
		"just the most":    {entry(api.KindObject, "/", "y", thing(obj("/", "y", 0, math.MaxInt64-5)))},
	} {
		if s, errno := server.Open(laid(t, 256, 8, 5, append(entriesOf(t, whole()), right...)...)); s == nil || errno != api.OK {
			t.Errorf("%s: Open: %d", what, errno)
		}
	}
}

// Records that only the log holds are looked at like others, and what is told of a store's own errors is told.
func TestOpenOfLog(t *testing.T) {
	d := formatted(t, 64, 8)
	below, errno := store.Open(d)
	if errno != api.OK {
		t.Fatalf("store.Open: %d", errno)
	}
	lay := func(l ...api.Change) {
		t.Helper()
		if below.Apply(l) != api.OK || below.Sync() != api.OK {
			t.Fatal("Apply, Sync")
		}
	}
	lay(api.Change{Key: keyOf(t, api.KindNode, "/a", "")})
	if s := open(t, copied(t, d)); s.Version() != 1 || text(dumped(t, s).Nodes) != "[/ /a]" {
		t.Errorf("a namespace in the log: %+v", dumped(t, s))
	}
	lay(api.Change{Key: "x", Value: "y"})
	opensNot(t, copied(t, d), api.ErrCorrupt)
	lay(api.Change{Key: "x", Gone: true})
	if s := open(t, copied(t, d)); s.Version() != 3 {
		t.Errorf("version %d", s.Version())
	}

	opensNot(t, nil, api.ErrArg)
	opensNot(t, device(t, 64), api.ErrCorrupt)
	d.Arm(0)
	opensNot(t, d, api.ErrDown)
	opensNot(t, d, api.ErrDown)
	d.Crash(nil)
	if s := open(t, d); s.Version() != 3 {
		t.Errorf("version %d", s.Version())
	}
}

// An opening writes and flushes: whichever of them takes the device down, it answers so, and the next one tells what was there.
func TestOpenGoesDown(t *testing.T) {
	for _, d := range images(t) {
		want := text(dumped(t, open(t, copied(t, d))))
		for acts := range 3 {
			for _, fate := range []api.Fate{{Kind: api.Dropped}, {Kind: api.Kept}, {Kind: api.Torn, At: 100}} {
				one := copied(t, d)
				one.Arm(acts)
				if acts == 2 {
					open(t, one)
				} else {
					opensNot(t, one, api.ErrDown)
				}
				one.Crash([]api.Fate{fate})
				if got := text(dumped(t, open(t, one))); got != want {
					t.Errorf("%d acts, %v: %s, want %s", acts, fate, got, want)
				}
			}
		}
	}
}

// Format is the store's.
func TestFormat(t *testing.T) {
	d := device(t, 64)
	for _, c := range []struct {
		d    *dev.Dev
		log  int
		want api.Errno
	}{{nil, 8, api.ErrArg}, {d, 7, api.ErrArg}, {d, 23, api.ErrArg}, {d, -1, api.ErrArg}, {d, 22, api.OK}, {d, 8, api.OK}} {
		if errno := server.Format(c.d, c.log); errno != c.want {
			t.Errorf("Format(%v, %d): %d, want %d", c.d != nil, c.log, errno, c.want)
		}
	}
	s := open(t, d)
	done(t, s, nodeAdd("/a"))
	done(t, s, plainly(api.OpCheckpoint))
	d.Arm(0)
	if errno := server.Format(d, 8); errno != api.ErrDown {
		t.Errorf("Format of a device that goes down: %d", errno)
	}
	d.Crash(nil)
	if s := open(t, d); s.Version() != 1 {
		t.Errorf("the old one: version %d", s.Version())
	}
	if errno := server.Format(d, 8); errno != api.OK {
		t.Errorf("Format: %d", errno)
	}
	if s := open(t, d); s.Version() != 0 || text(dumped(t, s)) != text(api.Dump{Nodes: []string{"/"}}) {
		t.Errorf("the new one: %+v", dumped(t, s))
	}
}

// within asks how many acts something takes of a device.
func within(t *testing.T, what string, d *dev.Dev, do func()) {
	t.Helper()
	was := d.Counts()
	do()
	now := d.Counts()
	acts := now.Reads - was.Reads + now.Writes - was.Writes + now.Flushes - was.Flushes
	if acts > 16*d.Blocks()+64 {
		t.Errorf("%s: %d acts on %d blocks", what, acts, d.Blocks())
	}
}

// filled: a device as full as a server makes it, its log too.
func filled(t *testing.T, blocks, log int, seed uint64) *dev.Dev {
	t.Helper()
	r := source(seed)
	d := formatted(t, blocks, log)
	s := open(t, d)
	done(t, s, nodeAdd("/a"))
	for full := 0; full < 3; {
		o := pick(r, bulky(r, "/a"), obj("/a", fmt.Sprint("s", r.IntN(100000)), r.IntN(10), 1))
		o.Name += fmt.Sprint("-", r.IntN(100000))
		if code := s.Do(root(create(o))).Code; code == api.ErrLogFull {
			full++
		} else if code != api.OK {
			t.Fatalf("create: %d", code)
		}
	}
	for i := 0; s.Stat().LogFree > 600; i++ {
		if code := s.Do(root(quotaSet(hard("/a", fmt.Sprint("q", i%9), "count", int64(1<<40+i))))).Code; code != api.OK {
			break
		}
	}
	done(t, s, plainly(api.OpSync))
	return d
}

// P24.9: Format and Open end within their acts, also on full devices.
func TestActs(t *testing.T) {
	for i, c := range []struct{ blocks, log int }{{64, 8}, {64, 22}, {200, 8}, {1000, 100}, {700, 512}} {
		d := device(t, c.blocks)
		within(t, "Format", d, func() { server.Format(d, c.log) })
		within(t, "Open of an empty one", d, func() { open(t, d) })
		d = filled(t, c.blocks, c.log, 6000+uint64(i))
		for range 2 {
			within(t, "Open of a full one", d, func() { open(t, d) })
		}
		within(t, "Format of a full one", d, func() { server.Format(d, c.log) })
	}
}

// P24.1, P24.9: any image ends Open within its acts; what it opens, if anything, is a state in order, and goes on without a fault.
func TestImages(t *testing.T) {
	opened, corrupt := 0, 0
	for seed := range uint64(400) {
		r := source(7000 + seed)
		var d *dev.Dev
		switch seed % 4 {
		case 0: // any bytes
			bytes := make([]byte, 512*(64+r.IntN(40)))
			for i := range bytes {
				bytes[i] = byte(r.IntN(256))
			}
			d, _ = dev.Of(bytes)
		default:
			d = copied(t, images(t)[r.IntN(len(images(t)))])
			for range 1 + r.IntN(3) {
				b := make([]byte, pick(r, 1, 1, 8, 512))
				for i := range b {
					b[i] = byte(r.IntN(256))
				}
				block := pick(r, r.IntN(d.Blocks()), r.IntN(12), 10+r.IntN(40))
				d.Edit(block, r.IntN(512-len(b)+1), b)
			}
		}
		var s *server.Server
		var errno api.Errno
		within(t, "Open of any image", d, func() { s, errno = server.Open(d) })
		if (s != nil) != (errno == api.OK) || errno != api.OK && errno != api.ErrCorrupt {
			t.Fatalf("seed %d: Open: %v, %d", seed, s != nil, errno)
		}
		if s == nil {
			corrupt++
			continue
		}
		opened++
		sound(t, s)
		p := newPaper(t, dumped(t, s))
		for range 20 {
			q := anyRequest(r, p)
			if got := s.Do(q); got.Code != api.OK && len(got.Objects)+len(got.Lines)+len(got.Events)+len(got.Names) > 0 {
				t.Fatalf("seed %d: %+v: %+v", seed, q, got)
			}
		}
		sound(t, s)
	}
	if opened < 50 || corrupt < 100 {
		t.Errorf("%d opened, %d were corrupt", opened, corrupt)
	}
}

// sound: a server's state is one that a world takes, with sums that are those of its objects, and its bindings lie in it.
func sound(t *testing.T, s *server.Server) {
	t.Helper()
	d := dumped(t, s)
	w, errno := admit.Of(d)
	if errno != api.OK {
		t.Fatalf("a state that is none: %d", errno)
	}
	if text(w.Dump().Uses) != text(d.Uses) {
		t.Fatalf("the ledger is %v, want %v", d.Uses, w.Dump().Uses)
	}
	for _, b := range d.Bindings {
		if !slices.Contains(d.Nodes, b.Path) {
			t.Fatalf("a binding at no namespace: %v", b)
		}
	}
}

// images: some devices that servers wrote to.
func images(t *testing.T) []*dev.Dev {
	t.Helper()
	small := formatted(t, 64, 8)
	s := open(t, small)
	done(t, s, nodeAdd("/a"))
	done(t, s, create(obj("/a", "x", 0, 5)))
	done(t, s, plainly(api.OpSync))
	other := laid(t, 80, 8, 7, entriesOf(t, whole())...)
	s = open(t, other)
	long := obj("/", strings.Repeat("l", 32), 0, 1)
	for i := range 16 {
		long.Labels = append(long.Labels, api.Label{Key: fmt.Sprintf("k%02d", i), Value: strings.Repeat("v", 32)})
	}
	done(t, s, create(long))
	done(t, s, plainly(api.OpCheckpoint))
	done(t, s, nodeAdd("/z"))
	done(t, s, plainly(api.OpSync))
	return []*dev.Dev{small, other}
}
