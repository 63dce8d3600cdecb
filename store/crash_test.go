package store_test

import (
	"fmt"
	"math/rand/v2"
	"testing"

	"bursar/api"
	"bursar/dev"
	"bursar/store"
)

// dare does one thing on a device that may go down; whether it did.
func (p *play) dare(r *rand.Rand, most int) bool {
	p.t.Helper()
	was := p.s.Stat()
	var errno api.Errno
	switch r.IntN(8) {
	case 0, 1:
		errno = p.s.Sync()
		if errno == api.OK {
			p.sync()
		}
	case 2:
		errno = p.s.Checkpoint()
		if errno != api.ErrDown {
			p.checkpoint(p.t, errno, 0)
		}
	default:
		l := anyChanges(r, most)
		errno = p.s.Apply(l)
		if errno != api.ErrDown {
			p.apply(p.t, l, errno)
		}
	}
	if errno != api.ErrDown {
		return false
	}
	// A checkpoint may have come beyond its Sync: then nothing is unsynced any more.
	dead := p.s.Stat()
	if dead.Unsynced != 0 {
		was.LogFree = 0
		stats(p.t, p.s, was)
	}
	was.Unsynced = dead.Unsynced
	mustBeDead(p.t, p.s, was)
	return true
}

// recover: a crash, and openings that crash themselves; then one that ends.
func (p *play) recover(r *rand.Rand) {
	p.t.Helper()
	p.d.Crash(anyFates(r, p.d))
	for r.IntN(3) == 0 {
		p.d.Arm(r.IntN(2))
		opensNot(p.t, p.d, api.ErrDown)
		p.d.Crash(anyFates(r, p.d))
	}
	other := open(p.t, copied(p.t, p.d))
	p.s = open(p.t, p.d)
	v := p.s.Version()
	if v < p.durable || v > p.now().version {
		p.t.Fatalf("Version %d, want %d to %d", v, p.durable, p.now().version)
	}
	holds(p.t, p.s, p.at(v))
	holds(p.t, other, p.at(v))
	stat := p.s.Stat()
	if stat != other.Stat() || stat.Unsynced != 0 || stat.Generation <= p.generation || stat.Epoch <= p.epoch {
		p.t.Fatalf("Stat: %+v, of a copy %+v; Generation was %d, Epoch %d", stat, other.Stat(), p.generation, p.epoch)
	}
	p.opened(v)
	p.generation, p.epoch = stat.Generation, stat.Epoch
	p.kept = p.log - (stat.LogFree+4)/logBytes
	p.look()
}

// TestCrash: a crash leaves a prefix, whatever was done, wherever the device went down.
func TestCrash(t *testing.T) {
	lost, found := 0, 0
	for seed := range uint64(300) {
		r := random(1000 + seed)
		p := newPlay(t, r, 64+r.IntN(100), 8+r.IntN(8))
		most := []int{10, 100, 2000}[r.IntN(3)]
		for range 12 {
			p.d.Arm(r.IntN(40))
			for range 20 {
				if p.dare(r, most) {
					break
				}
			}
			first, last := p.durable, p.now().version
			p.recover(r)
			if first < last && p.durable == last {
				found++
			} else if first < last {
				lost++
			}
		}
	}
	if lost < 100 || found < 100 {
		t.Errorf("lost %d times, found %d times", lost, found)
	}
}

// TestByNothingElse: what no Sync or checkpoint covered is lost in a crash that drops all; what one covered isn't.
func TestByNothingElse(t *testing.T) {
	for seed := range uint64(100) {
		r := random(2000 + seed)
		p := newPlay(t, r, 64+r.IntN(60), 8)
		for range 30 {
			p.step(r, 1500)
			other := copied(t, p.d)
			holds(t, open(t, other), p.at(p.durable))
		}
	}
}

// act: one of a script's calls.
type act struct {
	name string
	l    []api.Change // nil: no Apply
}

func script() []act {
	return []act{
		{"Apply", []api.Change{set("a", "1"), set("b", text(600))}},
		{"Sync", nil},
		{"Apply", []api.Change{set("a", "2"), gone("l")}},
		{"Apply", []api.Change{set("c", text(400))}},
		{"Checkpoint", nil},
		{"Apply", []api.Change{gone("b"), set("d", text(65))}},
		{"Sync", nil},
		{"Apply", []api.Change{set("e", text(3600))}}, // by a checkpoint of its own
		{"Checkpoint", nil},
		{"Checkpoint", nil},
		{"Apply", []api.Change{gone("a"), gone("c"), gone("d"), gone("e")}},
		{"Sync", nil},
	}
}

// run does the script as far as the device lets it: the states, and the version that is durable at least.
func run(t *testing.T, d *dev.Dev) ([]state, int64, bool) {
	t.Helper()
	states := []state{stateOf(0, entry("l", "0"))}
	s, errno := store.Open(d)
	durable := int64(0)
	for _, a := range script() {
		if errno != api.OK {
			break
		}
		switch {
		case a.l != nil:
			errno = s.Apply(a.l)
			if errno == api.OK {
				states = append(states, states[len(states)-1].next(a.l))
			}
		case a.name == "Sync":
			errno = s.Sync()
		default:
			errno = s.Checkpoint()
		}
		if errno == api.OK {
			durable = s.Version() - int64(s.Stat().Unsynced)
		}
	}
	if errno != api.OK && errno != api.ErrDown {
		t.Fatalf("the script: %d", errno)
	}
	return states, durable, errno == api.OK
}

// TestEachAct: the device goes down at each act of a script, each unflushed write has each fate (all mixtures, if they are few), and the opening behind it is cut short, too.
func TestEachAct(t *testing.T) {
	laid := device(t, 64)
	lay(t, laid, 8, 0, entry("l", "0"))
	kinds := []api.Fate{{Kind: api.Dropped}, {Kind: api.Kept}, {Kind: api.Torn, At: 300}, {Kind: api.Torn, At: 508}}
	for n := 0; ; n++ {
		d := copied(t, laid)
		d.Arm(n)
		_, _, done := run(t, d)
		writes := min(4, len(d.Pending()))
		mixtures := 1
		for range writes {
			mixtures *= len(kinds)
		}
		for i := range mixtures {
			d := copied(t, laid)
			d.Arm(n)
			states, durable, _ := run(t, d)
			var fates []api.Fate
			for j := range d.Pending() {
				// Beyond the fourth write the fates come again.
				pick := i >> (2 * (j % 4)) % len(kinds)
				fates = append(fates, kinds[pick])
			}
			d.Crash(fates)
			cutShort(t, d, i)
			s := open(t, d)
			v := s.Version()
			if v < durable || v >= int64(len(states)) {
				t.Fatalf("%d acts, fates %v: version %d, want %d to %d", n, fates, v, durable, len(states)-1)
			}
			holds(t, s, states[v])
		}
		if done {
			break
		}
	}
}

// cutShort lets openings go down at their write or their flush, with each fate of the write.
func cutShort(t *testing.T, d *dev.Dev, i int) {
	t.Helper()
	d.Arm(0)
	opensNot(t, d, api.ErrDown)
	d.Crash(nil)
	for _, fate := range []api.Fate{{Kind: api.Kept}, {Kind: api.Torn, At: 9 + i%3}, {Kind: api.Torn, At: 503 + i%4}, {Kind: api.Dropped}} {
		d.Arm(1)
		opensNot(t, d, api.ErrDown)
		if l := d.Pending(); len(l) != 1 || l[0] > 1 {
			t.Fatalf("Open's writes: %v", l)
		}
		d.Crash([]api.Fate{fate})
	}
}

// TestCheckpointOrder: no page is written to a block that the last superblock names, and the next superblock is written when all that it names is flushed.
func TestCheckpointOrder(t *testing.T) {
	for n := 0; ; n++ {
		d, s := fresh(t)
		x := stateOf(0)
		for i := range 12 {
			l := []api.Change{set(fmt.Sprintf("%02d", i), text(40*i))}
			apply(t, s, l...)
			x = x.next(l)
		}
		is(t, "Checkpoint", s.Checkpoint(), api.OK)
		l := []api.Change{gone("03"), set("05", "x"), set("99", text(700))}
		apply(t, s, l...)
		is(t, "Sync", s.Sync(), api.OK)
		d.Arm(n)
		errno := s.Checkpoint()
		if errno == api.OK {
			break
		}
		pending := d.Pending()
		for i, block := range pending {
			if block < 2 && (i != len(pending)-1 || len(pending) > 1) {
				t.Fatalf("behind %d acts: a superblock among %v", n, pending)
			}
		}
		fates := make([]api.Fate, len(pending))
		for i := range fates {
			fates[i].Kind = api.Kept
		}
		d.Crash(fates)
		holds(t, open(t, d), x.next(l))
	}
}
