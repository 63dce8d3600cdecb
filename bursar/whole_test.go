package bursar_test

import (
	"fmt"
	"math/rand/v2"
	"slices"
	"strings"
	"testing"

	"bursar/api"
	"bursar/ask"
	"bursar/bursar"
	"bursar/object"
)

// DOC.md's promises of the whole, by lines of text.

// dump tells the dump of the world's server.
func dump(t testing.TB, w *bursar.World) api.Dump {
	t.Helper()
	return undump(t, do(t, w, "dump"))
}

// code tells the number with which a line was refused; 0: it wasn't.
func code(t testing.TB, told string) api.Errno {
	t.Helper()
	if strings.HasPrefix(told, "ok") {
		return api.OK
	}
	return api.Errno(whole(t, strings.Fields(first(told))[1]))
}

// scarce: a refusal of the device, not of the request.
func scarce(errno api.Errno) bool { return errno == api.ErrNoSpace || errno == api.ErrLogFull }

// asRoot tells a line that is a command, of a random request as root.
func asRoot(r *rand.Rand) string {
	for {
		if s := randomRequest(r); isRequest(s) {
			return "as root " + s
		}
	}
}

func isRequest(s string) bool {
	_, is := bursar.Ask(s)
	return is
}

// P1, P27.1: no bytes at all make a call panic or go on for ever.
func TestTotal(t *testing.T) {
	r := source(11)
	w := behind(t)
	done(t, w, "export")
	for range 30000 {
		b := make([]byte, r.IntN(40))
		for i := range b {
			b[i] = byte(r.IntN(256))
		}
		s := string(b)
		if r.IntN(2) == 0 {
			s = bent(r, bent(r, randomLine(r)))
		}
		_, errno := w.Do(s)
		if n, got := bursar.Check(s); !strings.Contains(s, "\n") && (errno != got || n != map[bool]int{true: 1}[errno != api.OK]) {
			t.Fatalf("Do(%q): %d, Check: %d, %d", s, errno, n, got)
		}
		bursar.Ask(s)
	}
}

// P2: a server on a small device tells what one with all the room tells, or that it has no room; and then goes on as if it hadn't been asked.
func TestServerIsItsModel(t *testing.T) {
	refused := 0
	for seed := range uint64(12) {
		r := source(200 + seed)
		small, wide := running(t, 64, pick(r, 8, 8, 16, 22)), running(t, 4096, 512)
		for n := range 900 {
			s := asRoot(r)
			if n%3 == 0 { // many things, so that the room becomes scarce
				s = fmt.Sprintf("as root create %s n%d label k%d=%s part p req cpu=1m", pick(r, "/", "/a", "/a/b"), n, n, strings.Repeat("v", 30))
			}
			if s == "as root stat" {
				continue
			}
			got := do(t, small, s)
			if scarce(code(t, got)) {
				refused++
				continue
			}
			if want := do(t, wide, s); got != want {
				t.Fatalf("%q: %q, want %q", s, short(got), short(want))
			}
			if n%50 == 0 && do(t, small, "dump") != do(t, wide, "dump") {
				t.Fatalf("behind %q the dumps are not the same", s)
			}
		}
		if do(t, small, "dump") != do(t, wide, "dump") {
			t.Fatalf("the dumps are not the same")
		}
	}
	if refused < 100 {
		t.Errorf("%d refusals for want of room", refused)
	}
}

// history: the dumps behind the changes that were done, by version, and which of them a crash can't take back.
type history struct {
	dumps   map[int]string
	durable int
}

// note notes the state of an open server.
func (h *history) note(t testing.TB, w *bursar.World) {
	t.Helper()
	told := do(t, w, "as root stat")
	version, unsynced := counted(t, told)[0], whole(t, strings.Fields(told)[8])
	h.dumps[version], h.durable = do(t, w, "dump"), version-unsynced
}

// holds: the server that is open has a state that the history has, at least the durable one.
func (h *history) holds(t testing.TB, w *bursar.World) {
	t.Helper()
	told := do(t, w, "dump")
	if v := counted(t, told)[0]; v < h.durable || told != h.dumps[v] {
		t.Fatalf("behind a crash:\n%s; durable was %d:\n%s", told, h.durable, h.dumps[h.durable])
	}
}

// opened opens the world's device, whatever cuts that short.
func opened(t testing.TB, r *rand.Rand, w *bursar.World) {
	t.Helper()
	for cut := r.IntN(4); cut > 0; cut-- {
		do(t, w, fmt.Sprintf("arm %d", r.IntN(12)))
		if code(t, do(t, w, "open")) == api.OK {
			do(t, w, "dump")
		}
		done(t, w, "crash "+randomFates(r))
	}
	done(t, w, "open")
}

// P3: a crash leaves a prefix of what was done, with all that was durable in it; over a copy of the medium too. What lies there is sound.
func TestCrashLeavesPrefix(t *testing.T) {
	lost := 0
	for seed := range uint64(150) {
		r := source(300 + seed)
		w := running(t, 64, 8)
		h := &history{dumps: map[int]string{}}
		h.note(t, w)
		for range 6 {
			armed := false
			for n := range 25 {
				if n == r.IntN(25) {
					done(t, w, fmt.Sprintf("arm %d", r.IntN(40)))
					armed = true
				}
				if code(t, do(t, w, asRoot(r))) == api.ErrDown {
					break
				}
				h.note(t, w)
			}
			if !armed && r.IntN(2) == 0 {
				continue
			}
			v, errno := bursar.Over(w.Medium())
			if errno != api.OK {
				t.Fatalf("Over: %d", errno)
			}
			opened(t, r, v)
			h.holds(t, v)
			done(t, w, "crash "+randomFates(r))
			opened(t, r, w)
			h.holds(t, w)
			sound(t, dump(t, w))
			steps(t, w, "fsck 64 -> ok 0")
			now := counted(t, do(t, w, "dump"))[0]
			for v := range h.dumps { // what was lost never was
				if v > now {
					lost++
					delete(h.dumps, v)
				}
			}
			h.note(t, w)
		}
	}
	if lost < 100 {
		t.Errorf("%d states were lost", lost)
	}
}

// P4, P27.4: in every state each use is the sum; the text of a dump is read back to the dump.
func TestLedgerIsSum(t *testing.T) {
	for seed := range uint64(25) {
		r := source(400 + seed)
		w := running(t, 512, 64)
		last := ""
		for range 250 {
			do(t, w, asRoot(r))
			told := do(t, w, "dump")
			if told == last {
				continue
			}
			last = told
			d := undump(t, told)
			sound(t, d)
			if again := bursar.Dump(d); again != told {
				t.Fatalf("a dump read back is told as\n%s, want\n%s", again, told)
			}
		}
	}
}

// P4: a sum above the greatest amount is refused.
func TestSumAbove(t *testing.T) {
	w := running(t, 64, 8, "as root node add /a", "as root create /a x part p req cpu=9223372036854775806m")
	steps(t, w, "as root create / y part p req cpu=2m -> no 7 2 - - - -", "as root create / y part p req cpu=1m -> ok 3..", "as root create /a z part p req cpu=1m -> no 7 3 - - - -", "as root create /a z part p req cpu=1m part q req cpu=9223372036854775807m -> no 7 3 - - - -", "as root create /a z part p req mem=9223372036854775807m -> ok 4..")
	sound(t, dump(t, w))
}

// P5: a valid object is admitted just if P5's words say so, and becomes just the defaulted one.
func TestAdmission(t *testing.T) {
	taken, not := 0, 0
	for seed := range uint64(60) {
		r := source(500 + seed)
		w := running(t, 512, 64, "as root node add /a", "as root node add /a/b")
		for range 100 {
			do(t, w, asRoot(r))
			s := "create " + randomObject(r)
			o, errno := object.Normal(asked(t, s).Object)
			if errno != api.OK || object.ValidObject(o) != api.OK {
				if code(t, do(t, w, "as root "+s)) != api.ErrObject {
					t.Fatalf("%q is taken", s)
				}
				continue
			}
			d := dump(t, w)
			want, is := admits(d, o)
			want.Version = d.Version + 1
			told := do(t, w, "as root "+s)
			if !is {
				not++
				if code(t, told) == api.OK {
					t.Fatalf("%q is admitted into\n%s", s, bursar.Dump(d))
				}
			} else if taken++; told != fmt.Sprintf("ok %d\n", want.Version)+objectPaper(want) {
				t.Fatalf("%q tells %q, want %q, in\n%s", s, told, objectPaper(want), bursar.Dump(d))
			}
		}
	}
	if taken < 100 || not < 100 {
		t.Errorf("%d admitted, %d not", taken, not)
	}
}

// P6: opening takes at most 16 acts a block and 64 more; opened again it tells the same; over spoilt bytes it ends with ErrCorrupt or a sound state.
func TestOpening(t *testing.T) {
	opens := map[api.Errno]int{}
	for seed := range uint64(120) {
		r := source(600 + seed)
		blocks := 64 + r.IntN(30)
		w := running(t, blocks, 8)
		for range 60 {
			do(t, w, asRoot(r))
		}
		done(t, w, pick(r, "as root sync", "as root checkpoint"))
		m := w.Medium()
		for range 9 * r.IntN(2) { // or not at all; where the log and the tree lie
			at := r.IntN(40 * 512)
			m[at] ^= 1 << r.IntN(8)
		}
		v, errno := bursar.Over(m)
		if errno != api.OK {
			t.Fatalf("Over: %d", errno)
		}
		told := do(t, v, "open")
		acts := counted(t, do(t, v, "counts"))
		if n := acts[0] + acts[1] + acts[2]; n > 16*blocks+64 {
			t.Fatalf("open of %d blocks takes %d acts", blocks, n)
		}
		opens[code(t, told)]++
		if told == "no 5\n" {
			continue
		}
		before := do(t, v, "dump")
		sound(t, undump(t, before))
		steps(t, v, "open -> "+first(told))
		if do(t, v, "dump") != before {
			t.Fatalf("opened again it tells another dump")
		}
	}
	if opens[api.OK] < 20 || opens[api.ErrCorrupt] < 5 || len(opens) != 2 {
		t.Errorf("open answers %v", opens)
	}
}

// P7: dry tells the run, and does nothing.
func TestDry(t *testing.T) {
	for seed := range uint64(20) {
		r := source(700 + seed)
		w := running(t, 1024, 64)
		for range 150 {
			s := asRoot(r)
			line := strings.TrimPrefix(s, "as root ")
			before := do(t, w, "dump")
			told := do(t, w, "as root dry "+line)
			q := asked(t, line)
			if after := do(t, w, "dump"); after != before {
				t.Fatalf("dry %s changes the dump", line)
			}
			now := do(t, w, s)
			if code(t, told) == api.OK && ask.Changes(q.Op) {
				version := undump(t, before).Version
				told = strings.Replace(told, fmt.Sprintf("ok %d\n", version), fmt.Sprintf("ok %d\n", version+1), 1)
			}
			if told != now && q.Op != api.OpStat && !scarce(code(t, now)) {
				t.Fatalf("%s: dry %q, then %q", line, told, now)
			}
		}
	}
}

// names tells the things that a dump names, as events do.
func names(d api.Dump) map[string]bool {
	l := map[string]bool{}
	for _, p := range d.Nodes {
		l[fmt.Sprintf("%d %s -", api.KindNode, p)] = true
	}
	for _, q := range d.Quotas {
		l[fmt.Sprintf("%d %s %s", api.KindQuota, q.Path, q.Name)] = true
	}
	for _, x := range d.Limits {
		l[fmt.Sprintf("%d %s %s", api.KindLimit, x.Path, x.Name)] = true
	}
	for _, o := range d.Objects {
		l[fmt.Sprintf("%d %s %s", api.KindObject, o.Path, o.Name)] = true
	}
	for _, b := range d.Bindings {
		l[fmt.Sprintf("%d %s %s", api.KindBinding, b.Path, b.Name)] = true
	}
	return l
}

// P8: from any version that the watch still knows, its events lead to the names of now.
func TestWatchLeads(t *testing.T) {
	led := 0
	for seed := range uint64(25) {
		r := source(800 + seed)
		w := running(t, 512, 64)
		past := map[int64]map[string]bool{}
		for range 150 {
			do(t, w, asRoot(r))
			if r.IntN(60) == 0 {
				done(t, w, "as root sync")
				done(t, w, "open")
			}
			d := dump(t, w)
			past[d.Version] = names(d)
		}
		d := dump(t, w)
		want := names(d)
		for v, then := range past {
			for n := 0; v < d.Version && n < 200; n++ {
				told := do(t, w, fmt.Sprintf("as root watch / %d most=%d", v, 70+r.IntN(31)))
				if code(t, told) == api.ErrGone {
					then = nil
					break
				}
				for _, e := range linesOf(told, "event") {
					p := strings.SplitN(e, " ", 5)
					delete(then, p[2]+" "+p[4])
					if p[3] == "0" {
						then[p[2]+" "+p[4]] = true
					}
				}
				v = int64(counted(t, told)[0])
			}
			if then == nil {
				continue
			}
			led++
			if fmt.Sprint(then) != fmt.Sprint(want) {
				t.Fatalf("the watch leads to %v, want %v", then, want)
			}
		}
	}
	if led < 200 {
		t.Errorf("%d versions were led on", led)
	}
}

// P9: what one device's store holds, carried to another, opens there to the same dump.
func TestBackupIsState(t *testing.T) {
	for seed := range uint64(30) {
		r := source(900 + seed)
		w := running(t, 256, pick(r, 8, 20))
		for range r.IntN(200) {
			do(t, w, asRoot(r))
		}
		done(t, w, pick(r, "as root sync", "as root checkpoint"))
		want := do(t, w, "dump")
		done(t, w, "export")
		done(t, w, "swap")
		done(t, w, fmt.Sprintf("import %d %d", 200+r.IntN(100), 8+r.IntN(20)))
		steps(t, w, "dump -> no 191", "open -> "+first(want))
		if got := do(t, w, "dump"); got != want {
			t.Fatalf("the other device has\n%s, want\n%s", got, want)
		}
		for range 20 {
			do(t, w, asRoot(r))
		}
		done(t, w, "swap")
		done(t, w, "open")
		if got := do(t, w, "dump"); got != want {
			t.Fatalf("the first device has\n%s, want\n%s", got, want)
		}
	}
}

// P10: a subject without a binding at or above a namespace gets nothing done there, and nothing told.
func TestNobodyDoes(t *testing.T) {
	denied := 0
	for seed := range uint64(25) {
		r := source(1000 + seed)
		w := running(t, 512, 64, "as root node add /a", "as root node add /a/b")
		for range 200 {
			do(t, w, asRoot(r))
			s, subject := strings.TrimPrefix(asRoot(r), "as root "), pick(r, "ann", "bob", "eve", "A", "root1")
			_, path, _ := ask.Verb(asked(t, s))
			before := do(t, w, "dump")
			d := undump(t, before)
			if slices.ContainsFunc(d.Bindings, func(b api.Binding) bool { return b.Subject == subject && above(b.Path, path) }) {
				do(t, w, "as "+subject+" "+s)
				continue
			}
			denied++
			steps(t, w, fmt.Sprintf("as %s %s -> no 210 %d %s - - -", subject, s, d.Version, path))
			if do(t, w, "dump") != before {
				t.Fatalf("%s as %s changes the dump", s, subject)
			}
		}
	}
	if denied < 1000 {
		t.Errorf("%d requests were denied", denied)
	}
}

// without tells a dump without some of its objects.
func without(d api.Dump, gone []api.Object) api.Dump {
	d.Objects = slices.DeleteFunc(slices.Clone(d.Objects), func(o api.Object) bool {
		return slices.ContainsFunc(gone, func(g api.Object) bool { return g.Path == o.Path && g.Name == o.Name })
	})
	return d
}

// P11: behind an eviction the object is there, what went was of lower priority, and nothing of it could have stayed.
func TestEvictionsLeast(t *testing.T) {
	went, noWay := 0, 0
	for seed := range uint64(80) {
		r := source(1100 + seed)
		w := running(t, 512, 64, "as root node add /a", "as root node add /a/b")
		for range r.IntN(5) {
			do(t, w, fmt.Sprintf("as root quota set %s %s %s count=%d requests.cpu=%d", pick(r, "/", "/a", "/a/b"), randomName(r), randomScope(r), 2+r.IntN(6), 2+r.IntN(9)))
		}
		for n := range 60 {
			do(t, w, fmt.Sprintf("as root create %s n%d prio=%d part p req cpu=%d", pick(r, "/", "/a", "/a/b"), n, r.IntN(4), r.IntN(4)))
			if n%4 > 0 {
				continue
			}
			d := dump(t, w)
			s := fmt.Sprintf("evict %s e%d prio=%d ends=%d part p req cpu=%d", pick(r, "/", "/a", "/a/b"), n, r.IntN(6), r.IntN(2), r.IntN(6))
			o := asked(t, s).Object
			told := do(t, w, "as root "+s)
			lower := slices.DeleteFunc(slices.Clone(d.Objects), func(x api.Object) bool { return x.Priority >= o.Priority })
			if _, is := admits(without(d, lower), o); is != (code(t, told) == api.OK) {
				t.Fatalf("%s tells %q in\n%s", s, told, bursar.Dump(d))
			}
			if code(t, told) != api.OK {
				noWay++
				continue
			}
			var gone []api.Object
			lines := linesOf(told, "object")
			for _, l := range lines[:len(lines)-1] {
				gone = append(gone, unobject(t, strings.Split(l, " ")))
			}
			went += len(gone)
			leastGone(t, d, o, gone)
			after := dump(t, w)
			if want, _ := admits(without(d, gone), o); !slices.ContainsFunc(after.Objects, func(x api.Object) bool { want.Version = d.Version + 1; return text(x) == text(want) }) {
				t.Fatalf("%s tells %q, and the object isn't there", s, told)
			}
			if len(after.Objects) != len(d.Objects)-len(gone)+1 {
				t.Fatalf("%s: %d objects, then %d", s, len(d.Objects), len(after.Objects))
			}
		}
	}
	if went < 100 || noWay < 20 {
		t.Errorf("%d went, %d evictions were refused", went, noWay)
	}
}

// leastGone: with these gone the object fits, without one of them less it doesn't.
func leastGone(t testing.TB, d api.Dump, o api.Object, gone []api.Object) {
	t.Helper()
	if _, is := admits(without(d, gone), o); !is {
		t.Fatalf("%+v doesn't fit without %+v", o, gone)
	}
	for i, g := range gone {
		if g.Priority >= o.Priority {
			t.Fatalf("%+v goes for %+v", g, o)
		}
		if _, is := admits(without(d, slices.Delete(slices.Clone(gone), i, i+1)), o); is {
			t.Fatalf("%+v could have stayed", g)
		}
	}
}
