package watch_test

import (
	"slices"
	"testing"

	"bursar/api"
	"bursar/watch"
)

var spoil = ev(9, 4, "gone", "/spoilt", "spoilt")

// roomy: a list with spare room, which is filled.
func roomy[T any](l []T, fill T) []T {
	room := append(slices.Clone(l), fill, fill, fill)
	return room[:len(l)]
}

// spoiled writes over all of a list, and over its spare room.
func spoiled[T any](l []T, fill T) {
	l = append(l, fill)
	for i := range l[:cap(l)] {
		l[:cap(l)][i] = fill
	}
}

// unspoilt asks whether a roomy list is what it was made of, its spare room too.
func unspoilt[T comparable](t *testing.T, handed, was []T, fill T) {
	t.Helper()
	if all := handed[:len(was)+3]; !slices.Equal(all, append(slices.Clone(was), fill, fill, fill)) {
		t.Errorf("what was handed in has changed to %v", all)
	}
}

// Nothing is shared: what is handed to Push stays as it is, its spare room too, and is not kept.
func TestPushKeepsNothing(t *testing.T) {
	h := watch.New(0)
	for range 5 { // also where there is room for them from the last time
		version := h.High() + 1
		for _, c := range []struct {
			l    []api.Event
			want api.Errno
		}{
			{append(some(version, 3), spoil), api.ErrArg},
			{some(version, 129), api.ErrLong},
			{some(version, 60), api.OK},
		} {
			handed := roomy(c.l, spoil)
			push(t, h, c.want, handed...)
			unspoilt(t, handed, c.l, spoil)
			spoiled(handed, spoil)
		}
		since(t, h, version-1, "/", 1, some(version, 60), version)
	}
}

// Lists that are told are new memory: each may be written to and appended to.
func TestSinceTellsNewLists(t *testing.T) {
	h := watch.New(0)
	for version := range int64(5) {
		push(t, h, api.OK, some(version+1, 3)...)
	}
	was := told(h)
	for _, path := range []string{"/", "/a", "/zz"} {
		for _, most := range []int{1, 4, 100} {
			one, _, _ := h.Since(1, path, most)
			two, _, _ := h.Since(1, path, most)
			want := slices.Clone(two)
			spoiled(one, spoil)
			if !slices.Equal(two, want) {
				t.Errorf("two of what Since tells share memory: %v", two)
			}
			if told(h) != was {
				t.Fatal("what Since tells shares memory with the hub")
			}
		}
	}
	l, _, _ := h.Since(1, "/", 100)
	want := slices.Clone(l)
	for range 3 { // what was told stays, though its versions are forgotten
		push(t, h, api.OK, slices.Repeat([]api.Event{ev(h.High()+1, 3, "gone", "/b", "x")}, 128)...)
	}
	if !slices.Equal(l, want) {
		t.Errorf("Push has changed what was told: %v", l)
	}
}

// What is handed to Replay stays as it is, and what it answers is new.
func TestReplaySharesNothing(t *testing.T) {
	for _, l := range [][]api.Event{nil, {ev(1, 3, "gone", "/a", "y"), ev(1, 3, "-", "/a", "w"), ev(1, 3, "-", "/a", "w")}} {
		for _, texts := range [][]string{{"/a z", "/a y", "/a y", "/a x"}, {"/a x", "/a z"}, nil} {
			names, events := roomy(texts, "spare"), roomy(l, spoil)
			one := watch.Replay(3, "/a", names, events)
			two := watch.Replay(3, "/a", names, events)
			want := replayed(3, "/a", texts, l)
			unspoilt(t, names, texts, "spare")
			unspoilt(t, events, l, spoil)
			spoiled(names, "spoilt")
			spoiled(events, spoil)
			spoiled(one, "spoilt")
			if !slices.Equal(two, want) {
				t.Errorf("Replay = %q, want %q", two, want)
			}
		}
	}
}
