package watch_test

import (
	"fmt"
	"maps"
	"math"
	"math/rand/v2"
	"slices"
	"strings"
	"testing"

	"bursar/api"
	"bursar/label"
	"bursar/watch"
)

// anyStart: where a hub begins, now and then near the last version of all, or beyond it.
func anyStart(r *rand.Rand) int64 {
	return pick(r, 0, 0, 5, int64(r.IntN(1000)), -3, api.MaxStamp-int64(r.IntN(20)), math.MinInt64, math.MaxInt64)
}

// anyList: what a hub may be handed, often right.
func anyList(r *rand.Rand, version int64) []api.Event {
	l := anyPush(r, version)
	if r.IntN(10) == 0 {
		l = some(version, pick(r, 0, 128, 129, 129, 300))
	}
	if len(l) > 0 && r.IntN(6) == 0 {
		at := r.IntN(len(l))
		l[at] = spoilt(r, l[at])
	}
	return l
}

// P22.1: random calls, wrong ones among them: each answers what the model says, and each of the answers comes often.
func TestAnyCalls(t *testing.T) {
	came := map[string]int{}
	for seed := range uint64(60) {
		r := source(1000 + seed)
		start := anyStart(r)
		h, m := watch.New(start), modelOf(start)
		for range 40 {
			l := anyList(r, m.high()+1)
			errno := m.push(l)
			push(t, h, errno, l...)
			spans(t, h, m.low(), m.high())
			came[fmt.Sprint("Push", int(errno))]++
			for range 15 {
				low, high := m.low(), m.high()
				version := pick(r, low-1, low, low+1, high-1, high, high+1, low+r.Int64N(high-low+1), low+r.Int64N(high-low+1), math.MinInt64, math.MaxInt64)
				path := pick(r, pick(r, paths...), pick(r, paths...), "/", "/a", pick(r, noPaths...))
				most := pick(r, 1, 2, 5, 20, 60, 99, 100, 1+r.IntN(100), pick(r, 0, -1, 101, math.MinInt, math.MaxInt))
				want, upTo, errno := m.since(version, path, most)
				answers(t, h, version, path, most, want, upTo, errno)
				came[outcome(want, upTo, errno, most, high)]++
			}
		}
		if t.Failed() {
			t.Fatalf("seed %d", seed)
		}
	}
	for _, answer := range []string{"Push0", "Push1", "Push23", "Since1", "Since41", "Since220", "Since221", "none, to high", "few, to high", "few, cut", "many, to high", "many, cut"} {
		if came[answer] < 50 {
			t.Errorf("%s came %d times", answer, came[answer])
		}
	}
}

// outcome: what kind of answer Since gave.
func outcome(l []api.Event, upTo int64, errno api.Errno, most int, high int64) string {
	if errno != api.OK {
		return fmt.Sprint("Since", int(errno))
	}
	end := "cut"
	if upTo == high {
		end = "to high"
	}
	switch {
	case len(l) == 0:
		return "none, " + end
	case len(l) <= most:
		return "few, " + end
	}
	return "many, " + end
}

// P22.2: a window, by the hub's own answers: what was pushed for the versions above low, at most MaxEvents, and one version more would be too many or was never pushed.
func TestWindow(t *testing.T) {
	forgot, kept := 0, 0
	for seed := range uint64(60) {
		r := source(2000 + seed)
		start := int64(r.IntN(100))
		h := watch.New(start)
		pushed := map[int64][]api.Event{}
		for range 50 {
			high := h.High()
			l := anyPush(r, high+1)
			if seed%2 == 0 {
				l = l[:min(len(l), 1+r.IntN(6))]
			}
			push(t, h, api.OK, l...)
			pushed[high+1] = l
			if h.High() != high+1 || h.Low() > h.High() || h.Low() < start {
				t.Fatalf("seed %d: low %d, high %d, high was %d", seed, h.Low(), h.High(), high)
			}
			var want []api.Event
			for version := h.Low() + 1; version <= h.High(); version++ {
				want = append(want, pushed[version]...)
			}
			if got := whole(t, h, h.Low(), "/"); !slices.Equal(got, want) {
				t.Fatalf("seed %d: above %d are %v, want %v", seed, h.Low(), got, want)
			}
			if len(want) > api.MaxEvents {
				t.Fatalf("seed %d: %d events", seed, len(want))
			}
			if h.Low() == start {
				kept++
			} else if forgot++; len(want)+len(pushed[h.Low()]) <= api.MaxEvents {
				t.Fatalf("seed %d: version %d was forgotten too early", seed, h.Low())
			}
		}
	}
	if forgot < 500 || kept < 100 {
		t.Errorf("%d windows moved, %d did not", forgot, kept)
	}
}

// P22.2: what a hub tells hangs on its window alone: one that begins at its low and is handed its events tells the same, and goes on as the same.
func TestWindowIsAll(t *testing.T) {
	for seed := range uint64(40) {
		r := source(3000 + seed)
		h := anyHub(t, r)
		other := watch.New(h.Low())
		for version := h.Low() + 1; version <= h.High(); version++ {
			l, _, _ := h.Since(version-1, "/", 1)
			push(t, other, api.OK, l...)
		}
		for range 3 {
			if told(h) != told(other) {
				t.Fatalf("seed %d: two hubs of one window tell different things", seed)
			}
			l := anyPush(r, h.High()+1)
			push(t, h, api.OK, l...)
			push(t, other, api.OK, l...)
		}
	}
}

// byVersion: the events above a version that lie in a path, asked for one version at a time.
func byVersion(h *watch.Hub, version int64, path string) [][]api.Event {
	var all [][]api.Event
	for ; version < h.High(); version++ {
		l, _, _ := h.Since(version, "/", 1) // each version has at least one, so just those of the next one
		if l = chosen(l, path); len(l) > 0 {
			all = append(all, l)
		}
	}
	return all
}

// P22.3: piece by piece all events in the path are told, each once, in order, and no version's are parted.
func TestPieceByPiece(t *testing.T) {
	several, again := 0, 0
	for seed := range uint64(60) {
		r := source(4000 + seed)
		h := anyHub(t, r)
		version := h.Low() + r.Int64N(h.High()-h.Low()+1)
		for _, path := range append([]string{"/zz"}, paths...) {
			left := byVersion(h, version, path)
			for _, most := range []int{1, 2, 3, 10, 50, 99, 100} {
				all := pieces(t, h, version, path, most)
				if got, want := slices.Concat(all...), slices.Concat(left...); !slices.Equal(got, want) {
					t.Fatalf("seed %d: %q by %d from %d on: %v, want %v", seed, path, most, version, got, want)
				}
				for i, piece := range all {
					if i > 0 && len(piece) > 0 && piece[0].Version == last(all[:i]) {
						t.Fatalf("seed %d: %q by %d from %d on: version %d is parted", seed, path, most, version, piece[0].Version)
					}
					if len(piece) > 0 && piece[0].Version < last(all[:i+1]) {
						several++
					}
				}
				if len(all) > 1 {
					again++
				}
			}
		}
	}
	if several < 500 || again < 500 {
		t.Errorf("%d pieces of several versions, %d lists of several pieces", several, again)
	}
}

// last: the version of the last event of all.
func last(pieces [][]api.Event) int64 {
	l := slices.Concat(pieces...)
	if len(l) == 0 {
		return 0
	}
	return l[len(l)-1].Version
}

// P22.3: each piece is as long as it may be: with the next version's it would be more than most.
func TestNoPieceIsTooShort(t *testing.T) {
	ended := 0
	for seed := range uint64(60) {
		r := source(5000 + seed)
		h := anyHub(t, r)
		for range 30 {
			version := h.Low() + r.Int64N(h.High()-h.Low()+1)
			path, most := pick(r, paths...), pick(r, 1, 3, 10, 50, 100)
			l, next, errno := h.Since(version, path, most)
			if errno != api.OK {
				t.Fatalf("seed %d: Since(%d, %q, %d) = %d", seed, version, path, most, errno)
			}
			if next == h.High() {
				continue
			}
			ended++
			if len(l) == 0 || l[len(l)-1].Version != next {
				t.Fatalf("seed %d: Since(%d, %q, %d) = %v, %d", seed, version, path, most, l, next)
			}
			further, _, _ := h.Since(next, path, 1) // of one version, as it has at least one
			if n := len(l) + len(further); len(further) == 0 || n <= most {
				t.Fatalf("seed %d: Since(%d, %q, %d) = %v, %d, but behind it are only %v", seed, version, path, most, l, next, further)
			}
			if len(l) > most && l[0].Version != next {
				t.Fatalf("seed %d: Since(%d, %q, %d) = %v", seed, version, path, most, l)
			}
		}
	}
	if ended < 300 {
		t.Errorf("only %d pieces were ended", ended)
	}
}

// P22.4: of a path is told what is told of the root, but for the events that don't lie in it.
func TestPathsAndRoot(t *testing.T) {
	less := 0
	for seed := range uint64(60) {
		h := anyHub(t, source(6000+seed))
		for version := h.Low(); version <= h.High(); version++ {
			all := whole(t, h, version, "/")
			for _, path := range paths {
				want := slices.DeleteFunc(slices.Clone(all), func(e api.Event) bool { return !label.Under(e.Path, path) })
				if got := whole(t, h, version, path); !slices.Equal(got, want) {
					t.Fatalf("seed %d: of %q from %d on %v, want %v", seed, path, version, got, want)
				}
				if len(all) <= api.MaxPage { // room enough for one piece
					since(t, h, version, path, api.MaxPage, want, h.High())
				}
				if len(want) > 0 && len(want) < len(all) {
					less++
				}
			}
		}
	}
	if less < 1000 {
		t.Errorf("only %d lists were parts of the root's", less)
	}
}

// things: what is there, the texts by kind and path.
type things map[api.Event]bool

func (x things) texts(kind int, path string) []string {
	var l []string
	for e := range x {
		if e.Kind == kind && liesIn(e.Path, path) {
			l = append(l, strings.Join([]string{e.Path, e.Name}, " "))
		}
	}
	slices.Sort(l)
	return l
}

// happens: the events of a version over what is there: things come, change and go, also several times.
func (x things) happens(r *rand.Rand, version int64) []api.Event {
	var l []api.Event
	for range 1 + r.IntN(9) {
		e := anyEvent(r, 0)
		e.Gone = false
		gone := x[e] && r.IntN(3) > 0
		if gone {
			delete(x, e)
		} else {
			x[e] = true
		}
		e.Version, e.Gone = version, gone
		l = append(l, e)
	}
	return l
}

// P22.5: the list of then and what Since tells since are the list of now: all at once, or each piece on what the last one gave.
func TestEnough(t *testing.T) {
	changed := 0
	for seed := range uint64(30) {
		r := source(7000 + seed)
		h := watch.New(int64(r.IntN(50)))
		x := things{}
		states := map[int64]things{h.High(): {}}
		for range 40 {
			push(t, h, api.OK, x.happens(r, h.High()+1)...)
			states[h.High()] = maps.Clone(x)
		}
		for version := h.Low(); version <= h.High(); version++ {
			for kind := range 5 {
				path, most := pick(r, paths...), pick(r, 1, 4, 30, 100)
				then, now := states[version].texts(kind, path), x.texts(kind, path)
				r.Shuffle(len(then), func(i, j int) { then[i], then[j] = then[j], then[i] })
				all := pieces(t, h, version, path, most)
				replay(t, kind, path, then, slices.Concat(all...), now...)
				names := then
				for _, piece := range all {
					names = watch.Replay(kind, path, names, piece)
				}
				replay(t, kind, path, names, nil, now...)
				if !slices.Equal(slices.Sorted(slices.Values(then)), now) {
					changed++
				}
			}
		}
		if t.Failed() {
			t.Fatalf("seed %d", seed)
		}
	}
	if changed < 500 {
		t.Errorf("only %d lists changed", changed)
	}
}

// P22.5: what Since tells of the root, or of any path above, leads there too.
func TestEnoughFromAbove(t *testing.T) {
	for seed := range uint64(30) {
		r := source(8000 + seed)
		h := watch.New(0)
		x := things{}
		push(t, h, api.OK, x.happens(r, 1)...)
		was := maps.Clone(x)
		for range 10 {
			push(t, h, api.OK, x.happens(r, h.High()+1)...)
		}
		for _, path := range paths {
			for kind := range 5 {
				for _, above := range []string{"/", path} {
					replay(t, kind, path, was.texts(kind, path), whole(t, h, 1, above), x.texts(kind, path)...)
				}
			}
		}
	}
}

// P22.1: Replay of lists of any kind is what the model says.
func TestAnyReplay(t *testing.T) {
	for seed := range uint64(1500) {
		r := source(9000 + seed)
		var names []string
		var l []api.Event
		for range r.IntN(30) {
			e := anyEvent(r, r.Int64())
			if r.IntN(3) == 0 {
				e = spoilt(r, e)
			}
			e.Kind = pick(r, e.Kind, 3, 3)
			l = append(l, e)
			if other := pick(r, l...); r.IntN(2) == 0 {
				names = append(names, other.Path+" "+other.Name)
			}
		}
		names = append(names, pick(r, noNames...), pick(r, "/a x", "/a/b w"))
		kind, path := pick(r, 3, 3, 3, 0, 1, 4, pick(r, noKinds...)), pick(r, pick(r, paths...), "/", "/a", pick(r, noPaths...))
		replay(t, kind, path, names, l, replayed(kind, path, names, l)...)
		if t.Failed() {
			t.Fatalf("seed %d", seed)
		}
	}
}

// One outcome: the same calls on new hubs tell the same, each time.
func TestSameAnswersEachTime(t *testing.T) {
	for seed := range uint64(20) {
		h := anyHub(t, source(10000+seed))
		first := told(h)
		l := whole(t, h, h.Low(), "/")
		names := watch.Replay(3, "/", nil, l)
		for range 3 {
			h := anyHub(t, source(10000+seed))
			if told(h) != first || told(h) != first {
				t.Fatalf("seed %d: the same calls tell another thing", seed)
			}
			replay(t, 3, "/", nil, l, names...)
		}
	}
}
