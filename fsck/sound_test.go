package fsck_test

import (
	"fmt"
	"math/rand/v2"
	"slices"
	"strings"
	"testing"

	"bursar/anchor"
	"bursar/api"
	"bursar/dev"
	"bursar/fsck"
	"bursar/page"
	"bursar/server"
	"bursar/wal"
)

// bulky: an object of some hundred to some thousand bytes.
func bulky(r *rand.Rand) api.Object {
	o := api.Object{Path: pick(r, places...), Name: fmt.Sprint("n", r.IntN(30))}
	for i := range 1 + r.IntN(4) {
		part := api.Part{Name: fmt.Sprint("p", i)}
		for k := range 1 + r.IntN(15) {
			part.Requests = append(part.Requests, api.Amount{Name: strings.Repeat("q", 30+k), Value: r.Int64N(1 << 40)})
		}
		o.Parts = append(o.Parts, part)
	}
	return o
}

// anyRequest: of any operation that changes the state or the device, and now and then of one that only looks.
func anyRequest(r *rand.Rand) api.Request {
	q := api.Request{Subject: pick(r, "root", "root", "root", "root", "ann"), Path: pick(r, places...), Name: pick(r, "x", "y", "z"), Dry: r.IntN(20) == 0, Most: 5}
	q.Op = pick(r, api.OpNodeAdd, api.OpNodeAdd, api.OpNodeAdd, api.OpNodeDrop, api.OpQuotaSet, api.OpQuotaDrop, api.OpLimitSet, api.OpLimitDrop, api.OpCreate, api.OpCreate, api.OpCreate,
		api.OpCreate, api.OpCreate, api.OpUpdate, api.OpDelete, api.OpBind, api.OpUnbind, api.OpEvict, api.OpSync, api.OpCheckpoint, api.OpCheckpoint, 1+r.IntN(api.OpEnd))
	q.Object, q.Quota, q.Limit = anyObject(r), anyQuota(r), giving(q.Path, q.Name, r.Int64N(9))
	q.Binding = bound(q.Path, q.Name, "ann", r.IntN(4))
	if r.IntN(3) == 0 {
		q.Object = bulky(r)
		q.Name = q.Object.Name
	}
	return q
}

func anyFates(r *rand.Rand, d *dev.Dev) []api.Fate {
	var fates []api.Fate
	for range d.Pending() {
		fates = append(fates, api.Fate{Kind: r.IntN(3), At: pick(r, r.IntN(513), 0, 8, 9, 16, 17, 496, 500, 504, 511, 512)})
	}
	if kind := r.IntN(6); kind < 2 {
		for i := range fates {
			fates[i].Kind = kind
		}
	}
	return fates
}

// P25.2: whatever a server was asked, wherever the device went down, whatever became of each write and however often opening was cut short. P25.3: and that opens.
func TestWhatWeWriteIsSound(t *testing.T) {
	died, refused, done := 0, 0, 0
	for seed := range uint64(60) {
		r := source(70000 + seed)
		d := formatted(t, 64+r.IntN(100), 8+r.IntN(8))
		sound(t, "formatted", d)
		s := open(t, d)
		// Some are asked for more than there is room for.
		greedy := seed%4 == 0
		for range 8 {
			d.Arm(pick(r, r.IntN(40), r.IntN(40), 300))
			for i := range 40 {
				q := anyRequest(r)
				if greedy {
					q = api.Request{Op: api.OpCreate, Subject: "root", Object: bulky(r)}
					q.Object.Path, q.Object.Name = "/", fmt.Sprint("g", r.IntN(1000))
				}
				code := s.Do(q).Code
				if code == api.ErrDown {
					died++
					break
				}
				if code == api.OK {
					done++
				} else if code == api.ErrLogFull || code == api.ErrNoSpace {
					refused++
				}
				sound(t, "behind a request", d)
				if i%8 == 0 {
					sound(t, "what is durable", copied(t, d))
				}
			}
			d.Crash(anyFates(r, d))
			sound(t, "behind a crash", d)
			for r.IntN(3) == 0 {
				d.Arm(r.IntN(2))
				if s, errno := server.Open(d); s != nil || errno != api.ErrDown {
					t.Fatalf("Open: %d", errno)
				}
				d.Crash(anyFates(r, d))
				sound(t, "behind an opening that was cut short", d)
			}
			s = open(t, d)
			sound(t, "opened", d)
		}
		same(t, "Check", check(t, d), nil)
	}
	if died < 100 || refused < 100 || done < 1000 {
		t.Errorf("died %d times, refused %d times, done %d times", died, refused, done)
	}
}

// script: changes of every kind, with syncs and checkpoints between; the updates are so long that one of them comes to a checkpoint by itself.
func script() []api.Request {
	node := func(path string) api.Request { return api.Request{Op: api.OpNodeAdd, Path: path} }
	named := func(op int, path, name string) api.Request { return api.Request{Op: op, Path: path, Name: name} }
	create := func(o api.Object) api.Request { return api.Request{Op: api.OpCreate, Object: o} }
	sync, checkpoint := api.Request{Op: api.OpSync}, api.Request{Op: api.OpCheckpoint}
	heavy := api.Object{Path: "/a", Name: "heavy", Priority: 5}
	for i := range 6 {
		part := api.Part{Name: fmt.Sprint("p", i)}
		for k := range 10 {
			part.Requests = append(part.Requests, api.Amount{Name: strings.Repeat("q", 30+k), Value: 1})
		}
		heavy.Parts = append(heavy.Parts, part)
	}
	update := api.Request{Op: api.OpUpdate, Object: heavy}
	return []api.Request{
		node("/a"), create(obj("/a", "x", 0, 600)), sync,
		{Op: api.OpQuotaSet, Quota: hard("/a", "q", "count", 2000)}, {Op: api.OpBind, Binding: bound("/a", "b", "ann", api.Read)}, checkpoint,
		{Op: api.OpLimitSet, Limit: giving("/a", "l", 5)}, create(heavy), {Op: api.OpEvict, Object: obj("/a", "z", 9, 1)}, sync,
		{Op: api.OpUpdate, Object: obj("/a", "z", 5, 2)}, named(api.OpUnbind, "/a", "b"), checkpoint,
		update, update, sync, update, named(api.OpDelete, "/a", "z"), named(api.OpDelete, "/a", "heavy"), sync, named(api.OpNodeDrop, "/a", ""), sync, checkpoint,
	}
}

// play does the script as far as the device lets it, and tells whether it came to the end.
func play(t *testing.T, d *dev.Dev) bool {
	t.Helper()
	s, errno := server.Open(d)
	if errno == api.ErrDown {
		return false
	}
	for _, r := range script() {
		r.Subject = "root"
		switch code := s.Do(r).Code; code {
		case api.OK:
		case api.ErrDown:
			return false
		default:
			t.Fatalf("%+v: %d", r, code)
		}
	}
	return true
}

// P25.2: the device goes down at each act of a script, with each fate of its unflushed writes (all mixtures, if they are few), and the openings behind it go down too.
func TestEachAct(t *testing.T) {
	formed := formatted(t, 64, 8)
	kinds := []api.Fate{{Kind: api.Dropped}, {Kind: api.Kept}, {Kind: api.Torn, At: 300}, {Kind: api.Torn, At: 500}}
	for n := 0; ; n++ {
		d := copied(t, formed)
		d.Arm(n)
		ended := play(t, d)
		mixtures := 1
		for range min(3, len(d.Pending())) {
			mixtures *= len(kinds)
		}
		for i := range mixtures {
			d := copied(t, formed)
			d.Arm(n)
			play(t, d)
			if !ended {
				if l, errno := fsck.Check(d, 9); len(l) != 0 || errno != api.ErrDown {
					t.Fatalf("Check of a device that is down: %v, %d", l, errno)
				}
			}
			var fates []api.Fate
			for j := range d.Pending() {
				fates = append(fates, kinds[i>>(2*(j%3))%len(kinds)])
			}
			d.Crash(fates)
			sound(t, fmt.Sprint("down behind ", n, " acts, ", fates), d)
			for acts, fate := range []api.Fate{{}, kinds[i%len(kinds)]} {
				d.Arm(acts)
				server.Open(d)
				d.Crash([]api.Fate{fate})
				sound(t, fmt.Sprint("down behind ", n, " acts, ", fates, ", opened for ", acts), d)
			}
			opens(t, d, true)
		}
		if ended {
			break
		}
	}
}

// What a Format that was cut short leaves is the old store, none, or the new one.
func TestFormatCutShort(t *testing.T) {
	for n := 0; ; n++ {
		for _, fate := range []api.Fate{{Kind: api.Dropped}, {Kind: api.Kept}, {Kind: api.Torn, At: 250}} {
			d := formatted(t, 64, 8)
			play(t, d)
			d.Arm(n)
			errno := server.Format(d, 9)
			d.Crash(slices.Repeat([]api.Fate{fate}, len(d.Pending())))
			l, checked := fsck.Check(d, 9)
			if checked != api.OK && checked != api.ErrCorrupt || errno == api.OK && checked != api.OK {
				t.Fatalf("Check behind %d acts: %d", n, checked)
			}
			same(t, fmt.Sprint("behind ", n, " acts"), l, nil)
			if s, opened := server.Open(d); (s != nil) != (checked == api.OK) || opened != checked {
				t.Errorf("behind %d acts: Check %d, Open %d", n, checked, opened)
			}
			if errno == api.OK {
				return
			}
		}
	}
}

// images: devices that servers wrote to, with all that they may have: a log with groups in it, chains, a tree of several heights.
func images(t *testing.T) []*dev.Dev {
	t.Helper()
	var all []*dev.Dev
	for seed := range uint64(12) {
		r := source(90000 + seed)
		d := formatted(t, 120, 12)
		s := open(t, d)
		for range 30 * seed {
			s.Do(anyRequest(r))
		}
		s.Do(api.Request{Op: api.OpSync, Subject: "root"})
		all = append(all, d)
	}
	return all
}

// forge edits an image so that no sum tells it: its superblock, a page, or a block of the log.
func forge(t *testing.T, r *rand.Rand, d *dev.Dev) {
	t.Helper()
	s := counting(t, d)
	pages, _ := pagesOf(d, s)
	switch what := r.IntN(6); {
	case what == 0:
		alterSuper(r, &s, d)
		if b, errno := anchor.Encode(s); errno == api.OK {
			d.Edit(int(s.Generation%2), 0, b)
		}
	case what <= 3 && len(pages) > 0:
		blocks := blocksOf(pages)
		block := pick(r, blocks...)
		if pages[block].Kind == 0 {
			return
		}
		n := bend(r, pages[block], blocks)
		if r.IntN(2) == 0 {
			n = pages[block]
			bendValue(r, &n, pages)
		}
		if b, errno := page.Encode(n); errno == api.OK {
			d.Edit(block, 0, b)
		}
	default:
		l, _, errno := wal.Open(d, 2, s.Log, s.From, s.Epoch+1)
		if errno != api.OK {
			t.Fatal(errno)
		}
		good, _ := logOnPaper(d, s)
		e := anyRecord(t, r)
		version := s.Version + int64(len(good)) + pick[int64](r, 1, 1, 1, 1, 0, 2)
		if l.Append(recordOf(t, max(1, version), pick(r, set(e), set(e), gone(e)))) == api.OK {
			l.Sync()
		}
	}
}

// alterSuper lets a superblock say something else.
func alterSuper(r *rand.Rand, s *api.Super, d *dev.Dev) {
	switch r.IntN(8) {
	case 0:
		s.Generation = top - r.Int64N(3)
	case 1:
		s.Epoch = top - r.Int64N(3)
	case 2:
		s.Epoch = max(1, s.Epoch-1)
	case 3:
		s.Version += pick[int64](r, 1, -1)
	case 4:
		s.Root, s.Count = 0, 0
	case 5:
		s.Count += pick[int64](r, 1, -1)
	case 6:
		s.From.Stamp += r.Int64N(4)
		s.From.At = int((s.From.Stamp - 1) % int64(s.Log))
	case 7:
		s.Root = 14 + r.IntN(d.Blocks()-14)
	}
	// The count is right of whatever tree it is.
	if r.IntN(2) == 0 {
		s.Count = onPaper(d, *s).count()
	}
}

// bendValue lets an entry have another's value.
func bendValue(r *rand.Rand, n *api.Node, pages map[int]api.Node) {
	n.Entries, n.Chains = slices.Clone(n.Entries), slices.Clone(n.Chains)
	if n.Kind != 1 {
		return
	}
	other := pages[pick(r, blocksOf(pages)...)]
	if other.Kind == 1 {
		i, j := r.IntN(len(n.Entries)), r.IntN(len(other.Entries))
		n.Entries[i].Value, n.Chains[i] = other.Entries[j].Value, other.Chains[j]
	}
}

// P25.3: where Check tells nothing a server opens, whoever made the image; what lies in the cache is a part of it. P25.1: what it tells is what the paper says.
func TestWhatIsSoundOpens(t *testing.T) {
	counts := rules{}
	all := images(t)
	for seed := range uint64(2500) {
		r := source(100000 + seed)
		d := copied(t, pick(r, all...))
		for range 1 + r.IntN(2) {
			forge(t, r, d)
		}
		if r.IntN(3) == 0 { // one block's edits are still to be flushed
			block := pick(r, r.IntN(2), 2+r.IntN(12), 14+r.IntN(60))
			b, _ := d.Raw(block)
			d.Edit(block, 0, make([]byte, 512))
			d.Write(block, b)
		}
		want, errno := fsck.Check(d, api.MaxFound)
		if errno != api.OK {
			t.Fatalf("seed %d: Check: %d", seed, errno)
		}
		counts.note(want)
		same(t, "Check", want, atMost(checkOnPaper(d, counting(t, d))))
		one, errno := fsck.Check(d, 1)
		if errno != api.OK {
			t.Fatal(errno)
		}
		same(t, "Check of at most 1", one, want[:min(1, len(want))])
		s, errno := server.Open(d)
		if len(one) == 0 && (s == nil || errno != api.OK) {
			t.Errorf("nothing told, Open: %d", errno)
		}
		if s != nil && slices.ContainsFunc(want, func(one api.Problem) bool { return !slices.Contains([]int{4, 5, 6}, one.Rule) }) {
			t.Errorf("%v, and a server opens", want)
		}
		if t.Failed() {
			t.Fatalf("seed %d", seed)
		}
	}
	counts.want(t, 200, 0)
	counts.want(t, 5, 1, 2, 3, 4, 5, 7, 8, 9, 12, 22, 23, 26)
}

// P25.4: of a device that is armed no act is taken, and one that is down stays so, with what waits in its cache.
func TestTakesNoAct(t *testing.T) {
	all := images(t)
	d := all[len(all)-1]
	s := counting(t, d)
	ask := func() {
		fsck.Check(d, 64)
		fsck.Tree(d, s, 64)
		fsck.Log(d, s)
	}
	for acts := range 3 {
		d.Arm(acts)
		for range 5 {
			looks(t, d, ask)
		}
		for range acts {
			if errno := d.Write(60, make([]byte, 512)); errno != api.OK {
				t.Fatalf("armed with %d: %d", acts, errno)
			}
		}
		if errno := d.Flush(); errno != api.ErrDown || len(d.Pending()) != acts {
			t.Fatalf("armed with %d: %d, %v", acts, errno, d.Pending())
		}
		looks(t, d, ask)
		if d.Crash(nil) != 0 || d.Down() {
			t.Fatal("Crash")
		}
	}
	d.Write(20, []byte(strings.Repeat("x", 512)))
	d.Write(20, make([]byte, 512))
	looks(t, d, ask)
	if d.Crash([]api.Fate{{Kind: api.Torn, At: 9}}); !strings.HasPrefix(string(d.Medium()[20*512:]), "xxxxxxxxx") {
		t.Error("what waits in the cache is another")
	}
}

// The chapter's example 6.
func TestServerExample(t *testing.T) {
	d := formatted(t, 64, 8)
	s := open(t, d)
	for _, r := range []api.Request{
		{Op: api.OpNodeAdd, Path: "/a"}, {Op: api.OpCreate, Object: obj("/a", "x", 0, 5)}, {Op: api.OpCheckpoint},
		{Op: api.OpQuotaSet, Quota: hard("/a", "q", "count", 1000)}, {Op: api.OpSync}, {Op: api.OpNodeAdd, Path: "/b"},
	} {
		r.Subject = "root"
		if reply := s.Do(r); reply.Code != api.OK {
			t.Fatalf("%+v: %d", r, reply.Code)
		}
	}
	d.Crash(nil)
	same(t, "behind a crash", check(t, d), nil)
	super := counting(t, d)
	if n, l := logOf(t, d, super); n != 1 || len(l) != 0 {
		t.Errorf("Log: %d, %v", n, l)
	}
	b, _ := d.Raw(super.Root)
	b[100] ^= 4
	d.Edit(super.Root, 0, b)
	same(t, "with a bit of the root changed", check(t, d), p(3, super.Root, 8, 0))
}
