package access_test

import (
	"slices"
	"testing"

	"bursar/access"
	"bursar/api"
)

// roomy: a list with spare room, which is filled.
func roomy[T any](l []T, fill T) []T {
	room := append(slices.Clone(l), fill, fill, fill)
	return room[:len(l)]
}

// Nothing is shared: what is handed in stays as it is, its spare room too, and is not kept.
func TestOfKeepsNothing(t *testing.T) {
	spare := bind("/spare", "spare", "spare", 1)
	l := []api.Binding{bind("/b", "w", "ann", 3), bind("/a", "w", "ann", 1), bind("/a", "v", "bob", 0)}
	for _, handed := range [][]api.Binding{
		roomy(l, spare),
		roomy(append(slices.Clone(l), l[0]), spare), // refused at its end
	} {
		was := slices.Clone(handed[:cap(handed)])
		x, errno := access.Of(handed)
		if !slices.Equal(handed[:cap(handed)], was) {
			t.Errorf("Of has changed what it was handed to %v", handed[:cap(handed)])
		}
		if errno != api.OK {
			continue
		}
		for i := range handed[:cap(handed)] {
			handed[:cap(handed)][i] = spare
		}
		list(t, x, l[2], l[1], l[0])
	}
}

// Lists that are told are new memory: each may be written to and appended to.
func TestListsAreNew(t *testing.T) {
	x := table(t, bind("/b", "w", "ann", 3), bind("/a", "w", "ann", 1), bind("/a", "v", "bob", 0), bind("/c", "v", "ann", 0))
	was := told(x)
	spoil := bind("/spoilt", "spoilt", "spoilt", 2)
	one, two := x.List(), x.List()
	want := slices.Clone(two)
	one = append(one, spoil, spoil)
	for i := range one[:cap(one)] {
		one[:cap(one)][i] = spoil
	}
	if !slices.Equal(two, want) {
		t.Errorf("two lists share memory: %v", two)
	}
	for _, subject := range []string{"ann", "root"} {
		one, two := x.Reach(subject, 0), x.Reach(subject, 0)
		want := slices.Clone(two)
		one = append(one, "spoilt")
		for i := range one[:cap(one)] {
			one[:cap(one)][i] = "spoilt"
		}
		if !slices.Equal(two, want) {
			t.Errorf("two of what Reach tells share memory: %v", two)
		}
	}
	if told(x) != was {
		t.Error("what is told shares memory with the table")
	}
}

// Tables stand apart.
func TestTablesStandApart(t *testing.T) {
	x := table(t, bind("/a", "w", "ann", 1))
	y := made(t, x.List())
	is(t, "Set", y.Set(bind("/b", "w", "ann", 1)), api.OK)
	is(t, "Drop", y.Drop("/a", "w"), api.OK)
	list(t, x, bind("/a", "w", "ann", 1))
	leave(t, x, "/a", 1)
	list(t, y, bind("/b", "w", "ann", 1))
}
