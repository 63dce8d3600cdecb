package evict_test

import (
	"fmt"
	"slices"
	"testing"

	"bursar/api"
	"bursar/evict"
)

// roomy: a list with spare room, which is filled.
func roomy[T any](l []T, fill T) []T {
	room := append(slices.Clone(l), fill, fill, fill)
	return room[:len(l)]
}

func roomyObject(o api.Object) api.Object {
	spare := api.Amount{Name: "spare", Value: 77}
	o.Labels = roomy(o.Labels, api.Label{Key: "spare"})
	o.Parts = roomy(o.Parts, api.Part{Name: "spare"})
	for i, p := range o.Parts {
		o.Parts[i].Requests, o.Parts[i].Limits = roomy(p.Requests, spare), roomy(p.Limits, spare)
	}
	return o
}

// room: a list with its spare room, by a text of each of its elements.
type room []*string

func roomOf[T any](l []T, text func(*T) *string) room {
	var all room
	l = l[:cap(l)]
	for i := range l {
		all = append(all, text(&l[i]))
	}
	return all
}

func roomsOf(objects []api.Object) []room {
	rooms := []room{roomOf(objects, func(o *api.Object) *string { return &o.Name })}
	for _, o := range objects {
		rooms = append(rooms, roomOf(o.Labels, func(l *api.Label) *string { return &l.Key }), roomOf(o.Parts, func(p *api.Part) *string { return &p.Name }))
		for _, p := range o.Parts {
			for _, l := range [][]api.Amount{p.Requests, p.Limits} {
				rooms = append(rooms, roomOf(l, func(a *api.Amount) *string { return &a.Name }))
			}
		}
	}
	return rooms
}

// apart writes every list full, each with a text of its own: if two share memory, the later text stands in the earlier list.
func apart(rooms []room) bool {
	for i, one := range rooms {
		for _, text := range one {
			*text = fmt.Sprint("list ", i)
		}
	}
	for i, one := range rooms {
		for _, text := range one {
			if *text != fmt.Sprint("list ", i) {
				return false
			}
		}
	}
	return true
}

// whole tells all that lies in some objects, their spare room too.
func whole(objects []api.Object) string {
	all := text(objects)
	for _, one := range roomsOf(objects) {
		for _, s := range one {
			all += *s + ","
		}
	}
	return all
}

// Nothing is shared: what is handed in stays as it is, its spare room too; what is told may be written to.
func TestNothingIsShared(t *testing.T) {
	low := roomyObject(obj("/a", "x", 0, "cpu", 5))
	low.Labels = []api.Label{{Key: "k", Value: "v"}}
	low.Parts[0].Limits = amounts("cpu", 9)
	other := low
	other.Name = "y"
	w := world(t, []api.Quota{hard("/a", "q", api.ScopeAll, "requests.cpu", 10)}, low, other)
	before := fmt.Sprint(w.Dump())

	n := []api.Object{roomyObject(obj("/a", "n", 1, "mem", 1, "cpu", 9))}
	n[0].Labels = roomy([]api.Label{{Key: "z"}, {Key: "a"}}, api.Label{Key: "spare"})
	handed := whole(n)
	plan, errno := evict.Plan(w, n[0])
	if len(plan) != 2 || errno != api.OK {
		t.Fatalf("Plan = %v, %d", plan, errno)
	}
	again, _ := evict.Plan(w, n[0])
	gone := roomy(plan, api.Object{Name: "spare"})
	goneWas := whole(gone)
	if is, errno := evict.Enough(w, n[0], gone); !is || errno != api.OK {
		t.Errorf("Enough = %v, %d", is, errno)
	}
	if whole(n) != handed || whole(gone) != goneWas {
		t.Error("what was handed in is changed")
	}
	if !apart(append(append(roomsOf(plan), roomsOf(again)...), roomsOf(n)...)) {
		t.Error("plans share memory with each other, or with what was handed in")
	}
	if fmt.Sprint(w.Dump()) != before {
		t.Error("plans share memory with the world")
	}
}

func TestOrderSharesNothing(t *testing.T) {
	r := source(5)
	for range 300 {
		var l []api.Object
		for range r.IntN(6) {
			l = append(l, roomyObject(anyObject(r)))
		}
		if len(l) > 1 {
			l[1].Parts, l[1].Labels = l[0].Parts, l[0].Labels // those that are handed in may share
		}
		l = roomy(l, api.Object{Name: "spare"})
		handed := whole(l)
		one, two := evict.Order(l), evict.Order(l)
		if whole(l) != handed {
			t.Fatalf("Order has changed %v", l)
		}
		if !apart(append(roomsOf(one), roomsOf(two)...)) {
			t.Fatalf("the lists of Order(%v) share memory", l)
		}
		if whole(l) != handed {
			t.Fatalf("what Order tells shares memory with %v", l)
		}
	}
}

// One outcome: the same calls on another world that was made alike tell the same.
func TestOneOutcome(t *testing.T) {
	for seed := range uint64(300) {
		r, s := source(100+seed), source(100+seed)
		w, o := anyWorld(t, r), anyObject(r)
		v, p := anyWorld(t, s), anyObject(s)
		for range 3 {
			one, errno := evict.Plan(w, o)
			two, other := evict.Plan(v, p)
			if text(one) != text(two) || errno != other {
				t.Fatalf("Plan(%v) = %v, %d, and %v, %d", o, one, errno, two, other)
			}
		}
	}
}
