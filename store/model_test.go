package store_test

import (
	"bytes"
	"fmt"
	"math/rand/v2"
	"slices"
	"testing"

	"bursar/api"
	"bursar/dev"
	"bursar/store"
)

// model: a store as the words of the chapter say it, but for when the tree finds no room.
type model struct {
	blocks, log       int
	generation, epoch int64
	history           []state // the laid one, then one behind each Apply
	durable           int64   // the version that no crash takes back
	payload           int     // bytes of the group in the making
	pending           int     // its records
	kept              int     // blocks of the log
	heaviest          int     // of all states
	refused           int     // how often the tree found no room
}

func newModel(blocks, log int, laid state) *model {
	return &model{blocks: blocks, log: log, generation: 1, epoch: 1, history: []state{laid}, durable: laid.version, heaviest: laid.weight()}
}

func (m *model) now() state { return m.history[len(m.history)-1] }

// at: the state with this version.
func (m *model) at(version int64) state { return m.history[version-m.history[0].version] }

func (m *model) opened(version int64) {
	m.history = m.history[:version-m.history[0].version+1]
	m.durable = version
	m.generation++
	m.epoch++
	m.payload, m.pending = 0, 0
}

func (m *model) room() int {
	return min(32768, max(0, logBytes*(m.log-m.kept)-m.payload-4))
}

func (m *model) sync() {
	m.kept += (m.payload + logBytes - 1) / logBytes
	m.payload, m.pending = 0, 0
	m.durable = m.now().version
}

// roomy: no call may answer ErrNoSpace with a state of this weight.
func (m *model) roomy(weight int) bool {
	return 24*max(weight, m.heaviest) <= 512*(m.blocks-2-m.log-32)
}

// checkpoint: the answer was errno.
func (m *model) checkpoint(t *testing.T, errno api.Errno, weight int) {
	t.Helper()
	m.sync()
	switch {
	case errno == api.OK:
		m.kept = 0
		m.generation++
	case errno == api.ErrNoSpace && !m.roomy(weight):
		m.refused++
	default:
		t.Fatalf("Checkpoint: %d, with the weight %d", errno, max(weight, m.heaviest))
	}
}

// apply: the answer to these changes was errno.
func (m *model) apply(t *testing.T, l []api.Change, errno api.Errno) {
	t.Helper()
	version := m.now().version + 1
	if e := wrong(version, l); e != api.OK {
		is(t, fmt.Sprintf("Apply of %.99v", l), errno, e)
		return
	}
	next := m.now().next(l)
	length := len(recordOf(version, l))
	if length > m.room() {
		if length+4 > logBytes*m.log {
			is(t, "Apply of more than the log", errno, api.ErrLogFull)
			return
		}
		if errno == api.ErrLogFull {
			m.checkpoint(t, api.ErrNoSpace, next.weight())
			return
		}
		m.checkpoint(t, api.OK, next.weight())
	}
	is(t, "Apply", errno, api.OK)
	m.payload += length + 4
	m.pending++
	m.history = append(m.history, next)
	m.heaviest = max(m.heaviest, next.weight())
}

func (m *model) stat() api.Stat {
	return api.Stat{Generation: m.generation, Epoch: m.epoch, Version: m.now().version, LogFree: m.room(), Entries: len(m.now().values), Unsynced: m.pending}
}

// play: a store on its device beside its model.
type play struct {
	*model
	t *testing.T
	d *dev.Dev
	s *store.Store
}

func newPlay(t *testing.T, r *rand.Rand, blocks, log int) *play {
	t.Helper()
	laid := stateOf(int64(r.IntN(3)))
	for range r.IntN(4) {
		laid.values[anyKey(r)] = anyValue(r, 100)
	}
	d := device(t, blocks)
	l, _ := laid.scan("", "", 99)
	lay(t, d, log, laid.version, l...)
	p := &play{model: newModel(blocks, log, laid), t: t, d: d}
	p.reopen()
	return p
}

// reopen: what isn't synced is gone; all else is as it was.
func (p *play) reopen() {
	p.t.Helper()
	p.s = open(p.t, p.d)
	p.opened(p.durable)
	p.look()
}

// look: the store tells what its model tells.
func (p *play) look() {
	p.t.Helper()
	holds(p.t, p.s, p.now())
	stats(p.t, p.s, p.stat())
}

// anyWrong: changes that aren't right, or more than the log takes.
func anyWrong(r *rand.Rand) []api.Change {
	l := anyChanges(r, 100)
	add := []api.Change{set("", "1"), gone(l[0].Key), {Key: "z", Value: "1", Gone: true}, set(text(121), ""), set("z", text(8193))}
	return append(l, add[r.IntN(len(add))])
}

// step does one thing, by chance.
func (p *play) step(r *rand.Rand, most int) {
	p.t.Helper()
	switch r.IntN(12) {
	case 0:
		is(p.t, "Sync", p.s.Sync(), api.OK)
		p.sync()
	case 1:
		p.checkpoint(p.t, p.s.Checkpoint(), 0)
	case 2:
		l := anyWrong(r)
		p.apply(p.t, l, p.s.Apply(l))
	case 3:
		from, to, n := anyKey(r), anyKey(r), r.IntN(5)
		want, wantMore := p.now().scan(from, to, n)
		if l, more, errno := p.s.Scan(from, to, n); !slices.Equal(l, want) || more != wantMore || errno != api.OK {
			p.t.Fatalf("Scan(%.9q, %.9q, %d) = %.99v, %v, %d, want %.99v, %v", from, to, n, l, more, errno, want, wantMore)
		}
	case 4:
		key := anyKey(r)
		value, there := p.now().values[key]
		gets(p.t, p.s, key, value, there, api.OK)
	default:
		l := anyChanges(r, most)
		p.apply(p.t, l, p.s.Apply(l))
	}
}

// TestModel: scripts by chance on small and great devices, within and beyond ROOM, with openings between.
func TestModel(t *testing.T) {
	refused := 0
	for seed := range uint64(250) {
		r := random(100 + seed)
		blocks, log := 64+r.IntN(60), 8+r.IntN(10)
		most := []int{10, 100, 2000, 8192}[r.IntN(4)]
		p := newPlay(t, r, blocks, log)
		for range 60 {
			p.step(r, most)
			if r.IntN(4) == 0 {
				p.look()
			}
			switch r.IntN(25) {
			case 0:
				p.reopen()
			case 1:
				p.d.Crash(nil)
				p.reopen()
			case 2:
				// On a copy of the medium it is what it is on the device.
				holds(t, open(t, copied(t, p.d)), p.at(p.durable))
			}
		}
		p.look()
		refused += p.refused
	}
	if refused < 20 {
		t.Errorf("the tree found no room only %d times", refused)
	}
}

// TestOpeningIsNoChange: any number of times, by opening alone or behind crashes when all was synced.
func TestOpeningIsNoChange(t *testing.T) {
	r := random(2)
	p := newPlay(t, r, 200, 10)
	for range 60 {
		p.step(r, 300)
	}
	is(t, "Sync", p.s.Sync(), api.OK)
	p.sync()
	for i := range 40 {
		if i%2 == 0 {
			p.d.Crash(nil)
		}
		p.reopen()
	}
}

// TestStateIsWhatWasApplied: with syncs, checkpoints and openings put in by chance the state is that without them.
func TestStateIsWhatWasApplied(t *testing.T) {
	for seed := range uint64(10) {
		r := random(200 + seed)
		d := device(t, 1024)
		lay(t, d, 200, 0)
		plain := open(t, d)
		plays := []*play{newPlay(t, random(1), 300, 8), newPlay(t, random(1), 128, 40)}
		for _, p := range plays {
			lay(t, p.d, p.log, 0)
			p.model = newModel(p.blocks, p.log, stateOf(0))
			p.reopen()
		}
		for range 80 {
			l := anyChanges(r, 200)
			apply(t, plain, l...)
			for _, p := range plays {
				p.apply(t, l, p.s.Apply(l))
				for range r.IntN(3) {
					switch r.IntN(3) {
					case 0:
						p.s.Sync()
						p.sync()
					case 1:
						p.checkpoint(t, p.s.Checkpoint(), 0)
					case 2:
						p.s.Sync()
						p.sync()
						p.reopen()
					}
				}
			}
		}
		want, _, errno := plain.Scan("", "", 1000)
		is(t, "Scan", errno, api.OK)
		for _, p := range plays {
			if l, _, errno := p.s.Scan("", "", 1000); !slices.Equal(l, want) || errno != api.OK || p.s.Version() != plain.Version() {
				t.Fatalf("seed %d: the states differ", seed)
			}
		}
	}
}

// TestSameAgain: the same calls on new objects give the same answers and write the same bytes.
func TestSameAgain(t *testing.T) {
	for seed := range uint64(20) {
		var media [2][]byte
		var counts [2]api.Counts
		for i := range media {
			r := random(300 + seed)
			p := newPlay(t, r, 150, 8)
			for range 60 {
				p.step(r, 400)
			}
			media[i], counts[i] = p.d.Medium(), p.d.Counts()
		}
		if !bytes.Equal(media[0], media[1]) || counts[0] != counts[1] {
			t.Fatalf("seed %d: the second time another device", seed)
		}
	}
}

// TestRefusedCheckpoint: one that finds no room leaves the state, makes all durable, and the next one does as if it had not been.
func TestRefusedCheckpoint(t *testing.T) {
	d, s := fresh(t)
	x := stateOf(0)
	do := func(l ...api.Change) api.Errno {
		errno := s.Apply(l)
		if errno == api.OK {
			x = x.next(l)
		}
		return errno
	}
	for i := 0; ; i++ {
		if errno := do(set(fmt.Sprintf("%02d", i), text(1400))); errno != api.OK {
			is(t, "Apply", errno, api.ErrLogFull)
			break
		}
	}
	was := s.Stat()
	if was.Unsynced != 0 {
		t.Fatalf("what was applied isn't durable: %+v", was)
	}
	super, _ := d.Raw(int(was.Generation % 2))
	for range 3 {
		is(t, "Checkpoint", s.Checkpoint(), api.ErrNoSpace)
		stats(t, s, was)
		holds(t, s, x)
		holds(t, open(t, copied(t, d)), x)
	}
	if now, _ := d.Raw(int(was.Generation % 2)); !bytes.Equal(now, super) {
		t.Error("a superblock was written")
	}
	// Without what the tree has not it finds room again.
	last := len(x.values) - 1
	is(t, "a small Apply", do(gone("00")), api.OK)
	is(t, "another", do(gone(fmt.Sprintf("%02d", last)), gone(fmt.Sprintf("%02d", last-1))), api.OK)
	holds(t, s, x)
	is(t, "Checkpoint", s.Checkpoint(), api.OK)
	holds(t, s, x)
	d.Crash(nil)
	holds(t, open(t, d), x)
}

// TestRefusedIsUnchanged: behind a call that is refused the next ones answer as if it had not been made (but that all is synced), also those that find room just so.
func TestRefusedIsUnchanged(t *testing.T) {
	refused := 0
	for seed := range uint64(60) {
		r := random(400 + seed)
		one, two := newPlay(t, random(seed), 64, 8), newPlay(t, random(seed), 64, 8)
		for range 80 {
			l := anyChanges(r, 1500)
			first, second := one.s.Apply(l), two.s.Apply(l)
			is(t, "the second Apply", second, first)
			stats(t, two.s, one.s.Stat())
			if r.IntN(4) > 0 {
				continue
			}
			is(t, "Sync", one.s.Sync(), api.OK)
			is(t, "Sync", two.s.Sync(), api.OK)
			other := open(t, copied(t, two.d))
			if other.Checkpoint() == api.ErrNoSpace {
				// So it will be refused here, too: the first store isn't asked.
				for range 3 {
					is(t, "Checkpoint", two.s.Checkpoint(), api.ErrNoSpace)
					refused++
				}
			}
			stats(t, two.s, one.s.Stat())
		}
		l, _, errno := one.s.Scan("", "", 1000)
		m, _, again := two.s.Scan("", "", 1000)
		if !slices.Equal(l, m) || errno != api.OK || again != api.OK {
			t.Fatalf("seed %d: the states differ", seed)
		}
	}
	if refused < 20 {
		t.Errorf("refused only %d times", refused)
	}
}

// TestRefusedGivesBack: what a refused checkpoint took is free again: the next one finds room just where one finds it that is the first.
func TestRefusedGivesBack(t *testing.T) {
	met := 0
	for links := 30; links < 58; links++ {
		var answers [2]api.Errno
		refused := false
		for i := range answers {
			d := device(t, 96)
			var l []api.Entry
			for j := range links {
				l = append(l, entry(fmt.Sprintf("f%02d", j), text(100)))
			}
			lay(t, d, 30, 0, l...)
			s := open(t, d)
			apply(t, s, set("a", text(1400)), set("b", text(1400)))
			apply(t, s, set("c", text(2400)))
			if i == 1 {
				refused = s.Checkpoint() == api.ErrNoSpace
			}
			apply(t, s, set("c", "3"))
			answers[i] = s.Checkpoint()
		}
		if !refused {
			continue
		}
		is(t, fmt.Sprint("Checkpoint behind a refused one, with ", links, " links"), answers[1], answers[0])
		if answers[0] == api.OK {
			met++
		}
	}
	if met == 0 {
		t.Error("none was refused first and then found room")
	}
}
