package server_test

import (
	"math/rand/v2"
	"testing"

	"bursar/api"
	"bursar/dev"
	"bursar/server"
)

func anyFates(r *rand.Rand, d *dev.Dev) []api.Fate {
	var fates []api.Fate
	for range d.Pending() {
		fates = append(fates, api.Fate{Kind: r.IntN(3), At: pick(r, r.IntN(513), 0, 8, 9, 16, 17, 496, 500, 504, 511, 512)})
	}
	if kind := r.IntN(6); kind < 2 {
		for i := range fates {
			fates[i].Kind = kind
		}
	}
	return fates
}

// crashes lets the device crash, and openings that crash themselves; then one that ends, on a copy of the medium too. It tells the version.
func (b *both) crashes(r *rand.Rand, durable int64) int64 {
	b.t.Helper()
	b.d.Crash(anyFates(r, b.d))
	for r.IntN(3) == 0 {
		b.d.Arm(r.IntN(2))
		opensNot(b.t, b.d, api.ErrDown)
		b.d.Crash(anyFates(r, b.d))
	}
	other := open(b.t, copied(b.t, b.d))
	b.s = open(b.t, b.d)
	version := b.s.Version()
	if version < durable || version > b.paper.state.Version {
		b.t.Fatalf("version %d, want %d to %d", version, durable, b.paper.state.Version)
	}
	b.paper.opened(version)
	b.same()
	if got := text(dumped(b.t, other)); got != b.paper.dump(version) {
		b.t.Fatalf("over a copy Dump is\n%s, want\n%s", got, b.paper.dump(version))
	}
	is(b.t, b.s, root(watching("/", version, 1)), ok(version))
	return version
}

// P24.3: wherever the device goes down, whatever becomes of each write, the state is that behind some change, and none that was durable is lost.
func TestCrash(t *testing.T) {
	lost, found, died := 0, 0, 0
	for seed := range uint64(60) {
		r := source(8000 + seed)
		b := newBoth(t, 64+r.IntN(200), 8+r.IntN(8))
		b.begin(r)
		done(t, b.s, plainly(api.OpSync))
		for range 10 {
			b.d.Arm(r.IntN(30))
			durable := b.s.Version() - int64(b.s.Stat().Unsynced)
			for range 25 {
				q := anyRequest(r, b.paper)
				if q.Op == api.OpCreate && r.IntN(3) == 0 {
					q = root(create(bulky(r, pick(r, b.paper.state.Nodes...))))
				}
				if b.ask(q, r.IntN(2) == 0) {
					died++
					break
				}
				durable = b.s.Version() - int64(b.s.Stat().Unsynced)
			}
			last := b.paper.state.Version
			version := b.crashes(r, durable)
			if durable < last && version == last {
				found++
			} else if durable < last {
				lost++
			}
		}
	}
	if lost < 50 || found < 20 || died < 100 {
		t.Errorf("lost %d times, found %d times, died %d times", lost, found, died)
	}
}

// script: changes of every kind, with syncs and checkpoints between.
func script() []api.Request {
	return []api.Request{
		nodeAdd("/a"), create(obj("/a", "x", 0, 600)), plainly(api.OpSync),
		quotaSet(hard("/a", "q", "count", 1000)), bind(bound("/a", "b", "ann", api.Read)), plainly(api.OpCheckpoint),
		limitSet(giving("/a", "l", 5)), evicting(obj("/a", "z", 5, 1)), plainly(api.OpSync),
		update(obj("/a", "z", 5, 2), 0), named(api.OpUnbind, "/a", "b"), plainly(api.OpCheckpoint),
		remove("/a", "z", 0), nodeDrop("/a"), plainly(api.OpSync),
	}
}

// play does the script as far as the device lets it: the texts of the states, the version that is durable at least, and whether it came to the end.
func play(t *testing.T, d *dev.Dev) ([]string, int64, bool) {
	t.Helper()
	states, durable := []string{text(api.Dump{Nodes: []string{"/"}})}, int64(0)
	s, errno := server.Open(d)
	if errno == api.ErrDown {
		return states, 0, false
	}
	for _, r := range script() {
		reply := s.Do(root(r))
		switch {
		case reply.Code == api.ErrDown:
			return states, durable, false
		case reply.Code != api.OK:
			t.Fatalf("%+v: %+v", r, reply)
		case r.Op == api.OpSync || r.Op == api.OpCheckpoint:
			durable = reply.Version
		default:
			states = append(states, text(dumped(t, s)))
		}
	}
	return states, durable, true
}

// P24.3: the device goes down at each act of a script, with each fate of each unflushed write (all mixtures, if they are few), and the opening behind it goes down too.
func TestEachAct(t *testing.T) {
	formed := formatted(t, 64, 8)
	kinds := []api.Fate{{Kind: api.Dropped}, {Kind: api.Kept}, {Kind: api.Torn, At: 300}, {Kind: api.Torn, At: 500}}
	for n := 0; ; n++ {
		d := copied(t, formed)
		d.Arm(n)
		_, _, ended := play(t, d)
		mixtures := 1
		for range min(3, len(d.Pending())) {
			mixtures *= len(kinds)
		}
		for i := range mixtures {
			d := copied(t, formed)
			d.Arm(n)
			states, durable, _ := play(t, d)
			var fates []api.Fate
			for j := range d.Pending() {
				fates = append(fates, kinds[i>>(2*(j%3))%len(kinds)])
			}
			d.Crash(fates)
			for acts, fate := range []api.Fate{{}, kinds[i%len(kinds)]} {
				d.Arm(acts)
				opensNot(t, d, api.ErrDown)
				d.Crash([]api.Fate{fate})
			}
			s := open(t, d)
			version := s.Version()
			if version < durable || version >= int64(len(states)) {
				t.Fatalf("%d acts, fates %v: version %d, want %d to %d", n, fates, version, durable, len(states)-1)
			}
			if got := text(dumped(t, s)); got != states[version] {
				t.Fatalf("%d acts, fates %v: %s, want %s", n, fates, got, states[version])
			}
		}
		if ended {
			break
		}
	}
}

// What no Sync or Checkpoint covered is nowhere but in memory: whoever opens the bytes doesn't find it.
func TestUnsyncedIsLost(t *testing.T) {
	d, s := wide(t)
	done(t, s, nodeAdd("/a"))
	done(t, s, plainly(api.OpSync))
	done(t, s, nodeAdd("/b"))
	if other := open(t, copied(t, d)); other.Version() != 1 {
		t.Errorf("version %d", other.Version())
	}
	d.Crash(nil)
	if again := open(t, d); again.Version() != 1 || text(dumped(t, again).Nodes) != "[/ /a]" {
		t.Errorf("%+v", dumped(t, again))
	}
}
