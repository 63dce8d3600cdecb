package btree_test

import (
	"fmt"
	"math/rand/v2"
	"slices"
	"testing"

	"bursar/api"
	"bursar/btree"
	"bursar/dev"
	"bursar/space"
)

// holds tells whether a tree that is opened at a root, in a space of its own, holds just these entries.
func holds(t *testing.T, d *dev.Dev, root int, want []api.Entry) bool {
	t.Helper()
	s, _ := space.New(d.Blocks(), d.Blocks(), nil)
	x, errno := btree.Open(d, s, root)
	if errno != api.OK {
		t.Fatalf("Open at %d: %d", root, errno)
	}
	l, more, errno := x.Scan("", "", len(want))
	return errno == api.OK && !more && slices.Equal(l, want)
}

func fates(r *rand.Rand, n int) []api.Fate {
	var l []api.Fate
	mode := r.IntN(5)
	for range n {
		kind := mode
		if mode > api.Torn {
			kind = r.IntN(3)
		}
		l = append(l, api.Fate{Kind: kind, At: r.IntN(513)})
	}
	return l[:r.IntN(n+1)]
}

// commit flushes and commits, and tells what stands from then on.
func (s *script) commit() (int, []api.Entry) {
	s.t.Helper()
	if errno := s.d.Flush(); errno != api.OK {
		s.t.Fatal(errno)
	}
	s.s.Commit()
	return s.x.Root(), sorted(s.model)
}

// recover opens what a crash left at the committed root, in a space that has just its blocks and the others'.
func (s *script) recover(root int, committed []api.Entry) {
	s.t.Helper()
	j, err := judged(s.d, root)
	if err != nil {
		s.t.Fatalf("P10.4: %v", err)
	}
	var taken []int
	for block := range s.d.Blocks() {
		if j.blocks[block] || slices.Contains(s.others, block) {
			taken = append(taken, block)
		}
	}
	var errno api.Errno
	if s.s, errno = space.New(s.d.Blocks(), 2, taken); errno != api.OK {
		s.t.Fatal(errno)
	}
	s.open(root)
	s.model = map[string]string{}
	for _, e := range committed {
		s.model[e.Key] = e.Value
	}
}

// The committed tree stands, whatever is done and whatever a crash leaves of it: P10.4.
func TestCrashes(t *testing.T) {
	for i, k := range kinds() {
		t.Run(k.name, func(t *testing.T) {
			t.Parallel()
			s := newScript(t, 200, k, uint64(i))
			s.run(40, 0.2, func() {})
			for round := range 12 {
				root, committed := s.commit()
				s.run(s.r.IntN(30), 0.2+0.05*float64(round), func() {
					if !holds(t, s.d, root, committed) {
						t.Fatal("P10.4: what was committed is changed")
					}
				})
				if round%4 == 3 {
					continue
				}
				s.armed(root, committed)
				s.d.Crash(fates(s.r, len(s.d.Pending())))
				copied, errno := dev.Of(s.d.Medium())
				if errno != api.OK || !holds(t, copied, root, committed) || !holds(t, s.d, root, committed) {
					t.Fatal("P10.4: a crash took what was committed")
				}
				s.recover(root, committed)
				s.sound(s.model, s.others)
			}
		})
	}
}

// armed lets the device go down with one of the writes of a change, which then is as if it had not been asked for.
func (s *script) armed(root int, committed []api.Entry) {
	s.t.Helper()
	key, value := s.kind.key(s.r), s.kind.value(s.r)
	before, free, bound := s.told(), s.s.Free(), s.bound(value)
	acts := s.r.IntN(4)
	s.d.Arm(acts)
	writes := s.d.Counts().Writes
	errno := s.x.Put(key, value)
	switch {
	case errno == api.ErrDown && s.d.Down() && s.d.Counts().Writes-writes == acts:
	case errno == api.OK && s.d.Counts().Writes-writes <= acts:
		return
	case errno == api.ErrNoSpace && free < bound && s.d.Counts().Writes == writes:
	default:
		s.t.Fatalf("armed with %d: %d", acts, errno)
	}
	if got := s.told(); got != before {
		s.t.Fatalf("armed with %d: %s, was %s", acts, got, before)
	}
}

// At every act of every change: it is refused, and all is as it was; up again, all pages of the tree stand there still.
func TestDown(t *testing.T) {
	for i, k := range kinds() {
		s := newScript(t, 400, k, uint64(i)+7)
		s.run(60, 0.2, func() {})
		for step := range 12 {
			key, value := s.kind.key(s.r), s.kind.value(s.r)
			if l := sorted(s.model); step%2 == 0 {
				key = l[s.r.IntN(len(l))].Key
			}
			change := func() api.Errno { return s.x.Put(key, value) }
			if step%2 == 0 {
				change = func() api.Errno {
					was, errno := s.x.Delete(key)
					if was != (errno == api.OK) {
						t.Fatalf("Delete: %v, %d", was, errno)
					}
					return errno
				}
			}
			s.d.Flush()
			before := s.told()
			acts := 0
			for s.d.Arm(acts); change() == api.ErrDown; s.d.Arm(acts) {
				if !s.d.Down() || s.told() != before {
					t.Fatalf("%s: armed with %d: %s, was %s", k.name, acts, s.told(), before)
				}
				s.get("a", "", false, api.ErrDown)
				s.d.Crash(fates(s.r, acts))
				s.sound(s.model, s.others)
				if acts++; acts > 60 {
					t.Fatalf("%s: a change is never taken", k.name)
				}
			}
			s.d.Crash(slices.Repeat([]api.Fate{{Kind: api.Kept}}, 60))
			if step%2 == 0 {
				delete(s.model, key)
			} else {
				s.model[key] = value
			}
			s.sound(s.model, s.others)
		}
	}
}

// A device that is down answers ErrDown, also where nothing would be read.
func TestDownEmpty(t *testing.T) {
	w := newWorld(t, 64)
	w.d.Arm(0)
	w.d.Flush()
	w.get("a", "", false, api.ErrDown)
	w.put("a", "1", api.ErrDown)
	w.drop("a", false, api.ErrDown)
	w.scan("", "", 0, "[]", false, api.ErrDown)
	w.scan("b", "a", 3, "[]", false, api.ErrDown)
	if shape, errno := w.x.Shape(); shape != (api.Shape{}) || errno != api.ErrDown {
		t.Errorf("Shape: %v, %d", shape, errno)
	}
	if blocks, errno := w.x.Blocks(); len(blocks) != 0 || errno != api.ErrDown {
		t.Errorf("Blocks: %v, %d", blocks, errno)
	}
	for range w.x.All() {
	}
	if w.x.Err() != api.ErrDown || w.x.Root() != 0 || fmt.Sprint(w.s.Taken()) != "[]" {
		t.Errorf("Err %d, Root %d, taken %v", w.x.Err(), w.x.Root(), w.s.Taken())
	}
	w.d.Crash(nil)
	w.put("a", "1", api.OK)
	// A change without a write is taken by a device that would go down with the first one.
	w.d.Arm(0)
	w.drop("a", true, api.OK)
	if w.d.Down() || w.x.Root() != 0 {
		t.Errorf("down %v, root %d", w.d.Down(), w.x.Root())
	}
}
