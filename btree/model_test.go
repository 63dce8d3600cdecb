package btree_test

import (
	"fmt"
	"math/rand/v2"
	"slices"
	"strings"
	"testing"

	"bursar/api"
	"bursar/btree"
	"bursar/dev"
	"bursar/page"
	"bursar/space"
)

// kind: where a script's keys and values come from.
type kind struct {
	name  string
	key   func(r *rand.Rand) string
	value func(r *rand.Rand) string
}

// upTo: a text of so many bytes at most, all lengths alike likely.
func upTo(r *rand.Rand, n int) string { return letters(r.IntN(n+1), r.IntN(1000)) }

func oneOf(r *rand.Rand, l ...int) int { return l[r.IntN(len(l))] }

func kinds() []kind {
	short := func(r *rand.Rand) string { return upTo(r, 64) }
	return []kind{
		{"numbers", func(r *rand.Rand) string { return name(r.IntN(300), 3) }, short},
		{"bytes", func(r *rand.Rand) string { return string([]byte{byte(r.IntN(256))}) }, func(r *rand.Rand) string { return "" }},
		{"pairs", func(r *rand.Rand) string { return string([]byte{byte(r.IntN(30)), byte(r.IntN(30))}) }, func(r *rand.Rand) string { return "" }},
		{"longest", func(r *rand.Rand) string { return name(r.IntN(300), 120) }, func(r *rand.Rand) string { return vs(64) }},
		{"longest keys, any values", func(r *rand.Rand) string { return name(r.IntN(300), 120) }, short},
		{"heads", func(r *rand.Rand) string { return strings.Repeat("a", 1+r.IntN(120)) }, short},
		{"long or short", func(r *rand.Rand) string { return name(r.IntN(200), oneOf(r, 3, 120)) }, func(r *rand.Rand) string { return vs(oneOf(r, 0, 64)) }},
		{"long beside short", func(r *rand.Rand) string {
			if i := r.IntN(300); i%7 != 0 {
				return name(i, 3)
			} else {
				return name(i, 3) + ks(117)
			}
		}, func(r *rand.Rand) string { return vs(oneOf(r, 0, 0, 0, 64)) }},
		{"all lengths", func(r *rand.Rand) string {
			i := r.IntN(300)
			return name(i, 3) + strings.Repeat("x", i*7919%118)
		}, short},
		{"late differences", func(r *rand.Rand) string {
			i := r.IntN(300)
			return strings.Repeat(string([]byte{byte(i % 4)}), 30+i%80) + name(i, 3)
		}, short},
		{"chains", func(r *rand.Rand) string { return name(r.IntN(40), 50) }, func(r *rand.Rand) string {
			return letters(oneOf(r, 0, 64, 65, 499, 500, 501, 1000, 1500, 8192), r.IntN(1000))
		}},
		{"short chains", func(r *rand.Rand) string {
			i := r.IntN(80)
			return name(i, 2) + ks([]int{51, 51, 51, 111}[i%4])
		}, func(r *rand.Rand) string { return vs(65) }},
		{"any bytes", func(r *rand.Rand) string {
			b := make([]byte, 1+r.IntN(3))
			for i := range b {
				b[i] = byte(oneOf(r, 0, 1, 97, 98, 254, 255))
			}
			return string(b)
		}, func(r *rand.Rand) string { return upTo(r, 90) }},
	}
}

// script: a world with others' blocks in its space, and the model of its tree.
type script struct {
	*world
	r      *rand.Rand
	kind   kind
	model  map[string]string
	others []int
}

func newScript(t *testing.T, blocks int, k kind, seed uint64) *script {
	t.Helper()
	r := rand.New(rand.NewPCG(seed, 10))
	d, _ := dev.New(blocks)
	others := []int{3, 7, 8, blocks - 1}
	s, errno := space.New(blocks, 2, others)
	if errno != api.OK {
		t.Fatal(errno)
	}
	w := &world{t: t, d: d, s: s}
	w.open(0)
	return &script{w, r, k, map[string]string{}, others}
}

// height tells the tree's, by its leftmost pages alone.
func (s *script) height() int {
	s.t.Helper()
	height := 0
	for block := s.x.Root(); block != 0; height++ {
		n, err := pageOf(s.d, block)
		if err != nil {
			s.t.Fatal(err)
		}
		block = 0
		if n.Kind == inner {
			block = n.Children[0]
		}
	}
	return height
}

// bound: how many writes P10.5 allows a change.
func (s *script) bound(value string) int { return 2*s.height() + 2 + page.Links(value) }

// judge holds what a change answered, and what it did, against the chapter.
func (s *script) judge(what string, errno api.Errno, free, bound int, counts api.Counts, before string) {
	s.t.Helper()
	now := s.d.Counts()
	switch errno {
	case api.OK:
		if n := now.Writes - counts.Writes; n > bound {
			s.t.Fatalf("P10.5: %s wrote %d blocks, may %d", what, n, bound)
		}
	case api.ErrNoSpace:
		if free >= bound {
			s.t.Fatalf("P10.5: %s is refused, %d are free, %d enough", what, free, bound)
		}
		if got := s.told(); got != before {
			s.t.Fatalf("%s is refused: %s, was %s", what, got, before)
		}
	default:
		s.t.Fatalf("%s: %d", what, errno)
	}
	if now.Flushes != counts.Flushes {
		s.t.Fatalf("%s flushed", what)
	}
}

func (s *script) put() {
	s.t.Helper()
	key, value := s.kind.key(s.r), s.kind.value(s.r)
	bound, free, before, counts := s.bound(value), s.s.Free(), s.told(), s.d.Counts()
	errno := s.x.Put(key, value)
	s.judge(fmt.Sprintf("Put(%.20q, %d)", key, len(value)), errno, free, bound, counts, before)
	if errno == api.OK {
		s.model[key] = value
	}
}

func (s *script) drop(key string) {
	s.t.Helper()
	_, is := s.model[key]
	bound, free, before, counts := s.bound(""), s.s.Free(), s.told(), s.d.Counts()
	was, errno := s.x.Delete(key)
	s.judge(fmt.Sprintf("Delete(%.20q)", key), errno, free, bound, counts, before)
	if was != (is && errno == api.OK) {
		s.t.Fatalf("Delete(%.20q): %v, %d", key, was, errno)
	}
	if !is && (errno != api.OK || s.told() != before || s.d.Counts().Writes != counts.Writes) {
		s.t.Fatalf("P10.5: Delete of what isn't there: %d", errno)
	}
	if errno == api.OK {
		delete(s.model, key)
	}
}

// read asks something, and holds the answer against the model.
func (s *script) read() {
	s.t.Helper()
	counts, before := s.d.Counts(), s.told()
	key := s.kind.key(s.r)
	value, there := s.model[key]
	s.get(key, value, there, api.OK)
	from, to, most := s.kind.key(s.r), s.kind.key(s.r), s.r.IntN(20)
	switch s.r.IntN(4) {
	case 0:
		from = ""
	case 1:
		to = ""
	case 2:
		from, to = min(from, to), max(from, to)
	}
	want, wantMore := ranged(s.model, from, to, most)
	l, more, errno := s.x.Scan(from, to, most)
	if !slices.Equal(l, want) || more != wantMore || errno != api.OK {
		s.t.Fatalf("Scan(%q, %q, %d): %d entries, %v, %d, want %d, %v", from, to, most, len(l), more, errno, len(want), wantMore)
	}
	now := s.d.Counts()
	if now.Writes != counts.Writes || now.Flushes != counts.Flushes || s.told() != before {
		s.t.Fatalf("P10.5: reading writes: %v, was %v", now, counts)
	}
}

// run does so many steps; deletes are as likely as said.
func (s *script) run(steps int, deletes float64, each func()) {
	s.t.Helper()
	for range steps {
		switch {
		case s.r.Float64() >= deletes:
			s.put()
		case len(s.model) > 0 && s.r.IntN(4) > 0:
			l := sorted(s.model)
			s.drop(l[s.r.IntN(len(l))].Key)
		default:
			s.drop(s.kind.key(s.r))
		}
		each()
	}
}

// Against the model, with all pages looked at behind every change (P10.1, P10.2, P10.3, P10.5).
func TestScripts(t *testing.T) {
	for i, k := range kinds() {
		t.Run(k.name, func(t *testing.T) {
			t.Parallel()
			for blocks, seed := range map[int]uint64{64: 1, 130: 2, 1000: 3} {
				s := newScript(t, blocks, k, seed*100+uint64(i))
				each := func() {
					s.sound(s.model, s.others)
					s.read()
					if s.r.IntN(40) == 0 {
						s.d.Flush()
						s.s.Commit()
					}
				}
				s.run(100, 0.1, each)
				s.same(s.model)
				s.run(100, 0.5, each)
				s.run(100, 0.85, each)
				s.same(s.model)
				s.run(40, 0.3, each)
				s.d.Flush()
				s.s.Commit()
				for _, e := range sorted(s.model) {
					s.drop(e.Key)
				}
				if len(s.model) == 0 && (s.x.Root() != 0 || !slices.Equal(s.s.Taken(), s.others)) {
					t.Errorf("P10.6: root %d, taken %v", s.x.Root(), s.s.Taken())
				}
			}
		})
	}
}

// Many entries, rarely looked at: high trees (P10.2, P10.5).
func TestHigh(t *testing.T) {
	for _, length := range []int{4, 60, 120} {
		t.Run(fmt.Sprint(length), func(t *testing.T) {
			t.Parallel()
			k := kind{"", func(r *rand.Rand) string {
				n := name(r.IntN(2000), 4)
				return n[:2] + ks(length-4) + n[2:]
			}, func(r *rand.Rand) string { return vs(r.IntN(65)) }}
			s := newScript(t, 3000, k, uint64(length))
			n := 0
			each := func() {
				if n++; n%150 == 0 {
					s.sound(s.model, s.others)
				}
			}
			s.run(1200, 0.05, each)
			s.same(s.model)
			if length == 120 && s.shape().Height < 5 {
				t.Errorf("height %d", s.shape().Height)
			}
			s.run(1200, 0.9, each)
			s.sound(s.model, s.others)
			s.same(s.model)
		})
	}
}

// Entries hang on nothing but what was put and deleted: P10.6.
func TestAnyOrder(t *testing.T) {
	for i, k := range kinds() {
		a := newScript(t, 2000, k, uint64(i))
		for range 120 {
			a.put()
		}
		want := sorted(a.model)
		for seed := range uint64(3) {
			b := newScript(t, 2000, k, 50+seed)
			for range 60 {
				b.put()
			}
			extra := sorted(b.model)
			l := slices.Clone(want)
			b.r.Shuffle(len(l), func(i, j int) { l[i], l[j] = l[j], l[i] })
			for _, e := range l {
				b.world.put(e.Key, e.Value, api.OK)
			}
			for _, e := range extra {
				if _, stays := a.model[e.Key]; !stays {
					b.world.drop(e.Key, true, api.OK)
				}
			}
			b.same(a.model)
			for range 50 {
				from, to, most := k.key(b.r), k.key(b.r), b.r.IntN(9)
				l, more, _ := a.x.Scan(from, to, most)
				m, rest, _ := b.x.Scan(from, to, most)
				if !slices.Equal(l, m) || more != rest {
					t.Fatalf("P10.6: %s: Scan(%q, %q, %d)", k.name, from, to, most)
				}
			}
		}
	}
}

// The same calls on new objects do the same: nothing hangs on chance.
func TestOneOutcome(t *testing.T) {
	for i, k := range kinds() {
		var first string
		for range 2 {
			s := newScript(t, 300, k, uint64(i))
			s.run(200, 0.3, func() {})
			told := s.told() + string(fmt.Sprint(s.d.Pending(), s.d.Counts().Writes))
			s.d.Flush()
			told += string(s.d.Medium())
			if first == "" {
				first = told
			}
			if told != first {
				t.Errorf("%s: two runs, two outcomes", k.name)
			}
		}
	}
}

// A tree opened anew is the same, as long as the device keeps what was written.
func TestOpenedAnew(t *testing.T) {
	for i, k := range kinds() {
		s := newScript(t, 500, k, uint64(i))
		s.run(100, 0.3, func() {
			x, errno := btree.Open(s.d, s.s, s.x.Root())
			if errno != api.OK {
				t.Fatal(errno)
			}
			s.x = x
		})
		s.sound(s.model, s.others)
		s.same(s.model)
	}
}
