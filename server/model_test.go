package server_test

import (
	"math/rand/v2"
	"slices"
	"testing"

	"bursar/api"
	"bursar/ask"
	"bursar/dev"
	"bursar/label"
	"bursar/server"
	"bursar/store"
	"bursar/watch"
)

// both: a server and its paper, asked the same.
type both struct {
	t     testing.TB
	d     *dev.Dev
	s     *server.Server
	paper *paper
	log   int // blocks of the log
	seen  map[api.Errno]int
}

func newBoth(t testing.TB, blocks, log int) *both {
	t.Helper()
	d := formatted(t, blocks, log)
	return &both{t: t, d: d, s: open(t, d), paper: begun(t), log: log, seen: map[api.Errno]int{}}
}

// begin adds most of the namespaces, so that there is something to ask for.
func (b *both) begin(r *rand.Rand) {
	b.t.Helper()
	for _, path := range paths[1:] {
		if r.IntN(6) > 0 {
			b.ask(root(nodeAdd(path)), false)
		}
	}
}

// ask asks both, by bytes or not; whether the server is dead now.
func (b *both) ask(q api.Request, byBytes bool) bool {
	b.t.Helper()
	asked, bytes, is := plain(q)
	x := b.paper.find(asked)
	before := b.s.Stat()
	var got api.Reply
	if byBytes && is {
		op, reply := handled(b.t, b.s, bytes)
		if op != q.Op {
			b.t.Fatalf("the reply to %d is to %d", q.Op, op)
		}
		got = reply
	} else {
		got = b.s.Do(q)
	}
	b.seen[got.Code]++
	switch {
	case got.Code == api.ErrDown:
		return true
	case b.resource(q, x, got):
		return false
	}
	changes := x.changes(asked)
	want := b.paper.do(asked, x)
	if q.Op == api.OpStat && got.Code == api.OK {
		want.Stat = before
	}
	if text(got) != text(want) {
		b.t.Fatalf("version %d: %+v:\n%+v, want\n%+v", b.paper.state.Version, q, got, want)
	}
	if changes {
		b.applied(before, x)
	} else if now := b.s.Stat(); now != before && got.Code == api.OK && q.Op != api.OpSync && q.Op != api.OpCheckpoint {
		b.t.Fatalf("%+v: Stat is %+v, was %+v", q, now, before)
	}
	b.same()
	return false
}

// resource tells whether a resource refused; then the document must let it.
func (b *both) resource(q api.Request, x *draft, got api.Reply) bool {
	b.t.Helper()
	mayBe := x.reply.Code == api.OK && (q.Op == api.OpCheckpoint && got.Code == api.ErrNoSpace || x.changes(q) && got.Code == api.ErrLogFull)
	if !mayBe {
		return false
	}
	weight, length := b.paper.most, 0
	if q.Op != api.OpCheckpoint {
		next := 0
		for _, entry := range entriesOf(b.t, x.next()) {
			next += len(entry.Key) + len(entry.Value) + 32
		}
		weight, length = max(weight, next), len(x.record())
	}
	if 24*weight <= 512*(b.d.Blocks()-2-b.log-32) && length <= 464*(b.log-2)-64 {
		b.t.Fatalf("%+v: %d, though there is room: W is %d, the record has %d bytes", q, got.Code, weight, length)
	}
	if want := no(got.Code, b.paper.state.Version); text(got) != text(want) {
		b.t.Fatalf("%+v: %+v, want %+v", q, got, want)
	}
	b.same()
	return true
}

// applied: a change is one Apply of its records.
func (b *both) applied(before api.Stat, x *draft) {
	b.t.Helper()
	now := b.s.Stat()
	if now.Version != before.Version+1 || now.Entries != len(entriesOf(b.t, b.paper.state)) {
		b.t.Fatalf("behind a change Stat is %+v, was %+v", now, before)
	}
	if now.Generation != before.Generation { // it made its own checkpoint
		return
	}
	// Of the record itself nothing is told but its length; what it says, an opening tells.
	d := x.p.dumps[now.Version-1]
	back := &draft{p: &paper{t: b.t, state: d}, world: x.world, bindings: x.bindings, events: x.events}
	if used := before.LogFree - now.LogFree; now.Unsynced != before.Unsynced+1 || used != 4+len(back.record()) {
		b.t.Fatalf("behind a change of %d bytes Stat is %+v, was %+v", len(back.record()), now, before)
	}
}

// same: both have the same state.
func (b *both) same() {
	b.t.Helper()
	if got, want := text(dumped(b.t, b.s)), b.paper.dump(b.paper.state.Version); got != want {
		b.t.Fatalf("Dump is\n%s, want\n%s", got, want)
	}
}

// opens: another server over the durable bytes has the same Dump, and its store just the records; then this device is opened anew.
func (b *both) opens() {
	b.t.Helper()
	is(b.t, b.s, root(plainly(api.OpSync)), ok(b.paper.state.Version))
	other := copied(b.t, b.d)
	if got := text(dumped(b.t, open(b.t, other))); got != b.paper.dump(b.paper.state.Version) {
		b.t.Fatalf("over a copy Dump is\n%s, want\n%s", got, b.paper.dump(b.paper.state.Version))
	}
	below, errno := store.Open(other)
	if errno != api.OK {
		b.t.Fatalf("store.Open: %d", errno)
	}
	entries, more, errno := below.Scan("", "", 1<<20)
	if want := entriesOf(b.t, b.paper.state); !slices.Equal(entries, want) || more || errno != api.OK || below.Version() != b.paper.state.Version {
		b.t.Fatalf("the store has %q, of version %d, want %q", entries, below.Version(), want)
	}
	b.s = open(b.t, b.d)
	b.paper.opened(b.paper.state.Version)
	b.same()
}

// replays: from any version that is still known, and for any kind and path, the events lead to what is there now.
func (b *both) replays(version int64, path string, most int) {
	b.t.Helper()
	var all []api.Event
	for from := version; ; {
		reply := b.s.Do(root(watching(path, from, most)))
		if reply.Code != api.OK {
			b.t.Fatalf("watching %s from %d: %+v", path, from, reply)
		}
		all = append(all, reply.Events...)
		if from = reply.Version; from == b.s.Version() {
			break
		}
	}
	within := func(l []string) []string {
		var in []string
		for _, one := range l {
			for i := range one {
				if one[i] == ' ' && label.Under(one[:i], path) {
					in = append(in, one)
				}
			}
		}
		return in
	}
	for kind := range 5 {
		got := watch.Replay(kind, path, within(b.paper.names[version][kind]), all)
		want := within(b.paper.names[b.s.Version()][kind])
		slices.Sort(want)
		if !slices.Equal(got, want) {
			b.t.Fatalf("kind %d, %s, from %d: %v lead to %q, want %q", kind, path, version, all, got, want)
		}
	}
}

// P24.1, P24.2, P24.4, P24.5, P24.7: any requests in any order get the paper's replies, with room enough no resource refuses, and the store has just the state's records.
func TestAnyRequests(t *testing.T) {
	seen, changed := map[api.Errno]int{}, 0
	for seed := range uint64(150) {
		r := source(1000 + seed)
		b := newBoth(t, 512, 32)
		b.seen = seen
		b.begin(r)
		for range 120 {
			b.ask(anyRequest(r, b.paper), r.IntN(2) == 0)
			if r.IntN(25) == 0 {
				b.opens()
			}
			if low, high := b.paper.hub.Low(), b.paper.hub.High(); r.IntN(4) == 0 {
				b.replays(low+r.Int64N(high-low+1), pick(r, paths...), pick(r, 1, 2, 100))
			}
		}
		b.opens()
		changed += int(b.s.Version())
	}
	for _, errno := range []api.Errno{
		api.OK, api.ErrArg, api.ErrOp, api.ErrDenied, api.ErrObject, api.ErrPath, api.ErrNode, api.ErrNoNode, api.ErrChildren, api.ErrRoot, api.ErrFull,
		api.ErrExists, api.ErrMissing, api.ErrConflict, api.ErrMin, api.ErrMax, api.ErrUnset, api.ErrQuota, api.ErrBelow, api.ErrNoWay, api.ErrTerm,
	} {
		if seen[errno] < 5 {
			t.Errorf("%d was answered %d times", errno, seen[errno])
		}
	}
	if seen[api.ErrLogFull]+seen[api.ErrNoSpace] > 0 {
		t.Errorf("resources refused: %v", seen)
	}
	if changed < 3000 {
		t.Errorf("%d changes in all", changed)
	}
}

// P24.2: on a device that is too small resources refuse, and later replies are those of a server that was never asked.
func TestResources(t *testing.T) {
	seen := map[api.Errno]int{}
	for seed := range uint64(30) {
		r := source(2000 + seed)
		b := newBoth(t, 64, 8+r.IntN(3))
		b.seen = seen
		b.begin(r)
		for range 120 {
			q := anyRequest(r, b.paper)
			if q.Op == api.OpCreate || q.Op == api.OpUpdate || q.Op == api.OpSync || q.Op == api.OpQuotaSet {
				o := bulky(r, pick(r, b.paper.state.Nodes...))
				q = root(pick(r, create(o), create(o), update(o, 0), evicting(o)))
			}
			b.ask(q, r.IntN(2) == 0)
			if r.IntN(40) == 0 {
				b.opens()
			}
		}
	}
	if seen[api.ErrLogFull] < 40 || seen[api.ErrNoSpace] < 10 {
		t.Errorf("ErrLogFull came %d times, ErrNoSpace %d times", seen[api.ErrLogFull], seen[api.ErrNoSpace])
	}
}

// P24.5, P24.6: what is said dry is told, and nothing is done; then the same in earnest tells the same.
func TestDryTellsTheRun(t *testing.T) {
	did := map[int]int{}
	for seed := range uint64(60) {
		r := source(3000 + seed)
		b := newBoth(t, 512, 32)
		b.begin(r)
		for range 100 {
			q := anyRequest(r, b.paper)
			if !ask.Changes(q.Op) {
				continue
			}
			q.Dry = true
			before, stat := text(dumped(t, b.s)), b.s.Stat()
			high := b.s.Do(root(watching("/", b.s.Version(), 1)))
			first := b.s.Do(q)
			if text(dumped(t, b.s)) != before || b.s.Stat() != stat {
				t.Fatalf("dry %+v: %+v, was %+v", q, b.s.Stat(), stat)
			}
			if now := b.s.Do(root(watching("/", b.s.Version(), 1))); text(now) != text(high) || first.Version != stat.Version {
				t.Fatalf("dry %+v: version %d, watched %+v, was %+v", q, first.Version, now, high)
			}
			q.Dry = false
			second := b.s.Do(q)
			if second.Code == api.OK {
				did[q.Op]++
				if second.Version != first.Version+1 || b.s.Version() != second.Version {
					t.Fatalf("%+v: version %d, dry %d", q, second.Version, first.Version)
				}
				second.Version = first.Version
			} else if text(dumped(t, b.s)) != before || b.s.Stat() != stat {
				t.Fatalf("refused %+v: %+v, was %+v", q, b.s.Stat(), stat)
			}
			if text(first) != text(second) {
				t.Fatalf("dry %+v:\n%+v, in earnest\n%+v", q, first, second)
			}
			b.paper.become(dumped(t, b.s))
		}
	}
	for op := 1; op < api.OpEnd; op++ {
		if ask.Changes(op) && did[op] < 10 {
			t.Errorf("operation %d was done %d times", op, did[op])
		}
	}
}

// P24.8: whoever is denied learns nothing but that, whatever there is, and does nothing.
func TestDenied(t *testing.T) {
	denied := map[int]int{}
	for seed := range uint64(60) {
		r := source(4000 + seed)
		b := newBoth(t, 512, 32)
		b.begin(r)
		for range 60 {
			b.ask(as("root", anyRequest(r, b.paper)), false)
		}
		before, stat := text(dumped(t, b.s)), b.s.Stat()
		for range 100 {
			q := anyRequest(r, b.paper)
			q.Subject = pick(r, "ann", "bob", "carl", "", "Root", "root ", "r")
			verb, path, is := ask.Verb(q)
			if !is || b.paper.may(q.Subject, verb, path) {
				continue
			}
			denied[q.Op]++
			want := noBy(api.ErrDenied, stat.Version, api.Detail{Path: path})
			if got := b.s.Do(q); text(got) != text(want) {
				t.Fatalf("%+v: %+v, want %+v", q, got, want)
			}
			if text(dumped(t, b.s)) != before || b.s.Stat() != stat {
				t.Fatalf("denied %+v: %+v, was %+v", q, b.s.Stat(), stat)
			}
		}
	}
	for op := 1; op < api.OpEnd; op++ {
		if denied[op] < 20 {
			t.Errorf("operation %d was denied %d times", op, denied[op])
		}
	}
}
