package admit_test

import (
	"fmt"
	"slices"
	"testing"

	"bursar/admit"
	"bursar/api"
)

// roomy: a list with spare room, which is filled.
func roomy[T any](l []T, fill T) []T {
	room := append(slices.Clone(l), fill, fill, fill)
	return room[:len(l)]
}

func roomyObject(o api.Object) api.Object {
	spare := api.Amount{Name: "spare", Value: 77}
	o.Labels = roomy(o.Labels, api.Label{Key: "spare"})
	o.Parts = roomy(o.Parts, api.Part{Name: "spare"})
	for i, p := range o.Parts {
		o.Parts[i].Requests, o.Parts[i].Limits = roomy(p.Requests, spare), roomy(p.Limits, spare)
	}
	return o
}

func roomyQuota(q api.Quota) api.Quota {
	q.Hard = roomy(q.Hard, api.Amount{Name: "spare", Value: 77})
	return q
}

func roomyRange(l api.LimitRange) api.LimitRange {
	l.Rules = roomy(l.Rules, api.Rule{Resource: "spare"})
	return l
}

func roomyDump(d api.Dump) api.Dump {
	d.Nodes = roomy(d.Nodes, "/spare")
	d.Quotas = roomy(d.Quotas, api.Quota{Name: "spare"})
	d.Limits = roomy(d.Limits, api.LimitRange{Name: "spare"})
	d.Objects = roomy(d.Objects, api.Object{Name: "spare"})
	for i := range d.Quotas {
		d.Quotas[i] = roomyQuota(d.Quotas[i])
	}
	for i := range d.Limits {
		d.Limits[i] = roomyRange(d.Limits[i])
	}
	for i := range d.Objects {
		d.Objects[i] = roomyObject(d.Objects[i])
	}
	return d
}

// room: a list with its spare room, by a text of each of its elements.
type room []*string

func roomOf[T any](l []T, text func(*T) *string) room {
	var all room
	l = l[:cap(l)]
	for i := range l {
		all = append(all, text(&l[i]))
	}
	return all
}

func amountsRoom(l []api.Amount) room {
	return roomOf(l, func(a *api.Amount) *string { return &a.Name })
}

func roomsOf(objects ...api.Object) []room {
	var rooms []room
	for _, o := range objects {
		rooms = append(rooms, roomOf(o.Labels, func(l *api.Label) *string { return &l.Key }), roomOf(o.Parts, func(p *api.Part) *string { return &p.Name }))
		for _, p := range o.Parts {
			rooms = append(rooms, amountsRoom(p.Requests), amountsRoom(p.Limits))
		}
	}
	return rooms
}

func dumpRooms(d api.Dump) []room {
	rooms := append(roomsOf(d.Objects...),
		roomOf(d.Nodes, func(s *string) *string { return s }),
		roomOf(d.Quotas, func(q *api.Quota) *string { return &q.Name }),
		roomOf(d.Limits, func(l *api.LimitRange) *string { return &l.Name }),
		roomOf(d.Objects, func(o *api.Object) *string { return &o.Name }),
		roomOf(d.Uses, func(u *api.Use) *string { return &u.Path }))
	for _, q := range d.Quotas {
		rooms = append(rooms, amountsRoom(q.Hard))
	}
	for _, l := range d.Limits {
		rooms = append(rooms, roomOf(l.Rules, func(r *api.Rule) *string { return &r.Resource }))
	}
	return rooms
}

// apart writes every list full, each with a text of its own: if two share memory, the later text stands in the earlier list.
func apart(rooms []room) bool {
	for i, one := range rooms {
		for _, text := range one {
			*text = fmt.Sprint("list ", i)
		}
	}
	for i, one := range rooms {
		for _, text := range one {
			if *text != fmt.Sprint("list ", i) {
				return false
			}
		}
	}
	return true
}

// whole tells all that lies in some lists, their spare room too.
func whole(rooms []room) string {
	text := ""
	for _, one := range rooms {
		for _, s := range one {
			text += *s + ","
		}
		text += ";"
	}
	return text
}

// What is handed in stays as it was, its spare room too; written full behind the call it changes nothing.
func TestHandedInIsNotKept(t *testing.T) {
	kept := 0
	for seed := range uint64(60) {
		r := source(8000 + seed)
		b := anyWorld(t, r, 15)
		for version := range int64(30) {
			o, q, l := roomyObject(anyObject(r)), roomyQuota(anyQuota(r)), roomyRange(anyRange(r))
			handed := slices.Concat(roomsOf(o), []room{amountsRoom(q.Hard), roomOf(l.Rules, func(r *api.Rule) *string { return &r.Resource })})
			texts, before := whole(handed), fmt.Sprint(o, q, l)
			b.world.Try(o, version%2 == 0, version, 0)
			_, _, first := b.world.Create(o, version)
			_, _, second := b.world.Update(o, version, 0)
			_, third := b.world.SetQuota(q)
			fourth := b.world.SetLimit(l)
			if whole(handed) != texts || fmt.Sprint(o, q, l) != before {
				t.Fatalf("seed %d: handed in %s, then %s", seed, before, fmt.Sprint(o, q, l))
			}
			for _, errno := range []api.Errno{first, second, third, fourth} {
				if errno == api.OK {
					kept++
				}
			}
			stands := fmt.Sprint(b.world.Dump())
			apart(handed)
			for i := range q.Hard {
				q.Hard[i].Value = 0
			}
			for i := range l.Rules {
				l.Rules[i].Min = most
			}
			if now := fmt.Sprint(b.world.Dump()); now != stands {
				t.Fatalf("seed %d: behind writing into what was handed in Dump is %s, want %s", seed, now, stands)
			}
		}
	}
	if kept < 1000 {
		t.Errorf("%d were kept", kept)
	}
}

func TestDumpIsNotKept(t *testing.T) {
	for seed := range uint64(60) {
		r := source(9000 + seed)
		d := roomyDump(anyWorld(t, r, 30).world.Dump())
		handed := dumpRooms(d)
		texts, before := whole(handed), fmt.Sprint(d)
		w, errno := admit.Of(d)
		if errno != api.OK || whole(handed) != texts || fmt.Sprint(d) != before {
			t.Fatalf("seed %d: Of: %d; handed in %s, then %s", seed, errno, before, fmt.Sprint(d))
		}
		stands := fmt.Sprint(w.Dump())
		apart(handed)
		if now := fmt.Sprint(w.Dump()); now != stands {
			t.Fatalf("seed %d: behind writing into what was handed in Dump is %s, want %s", seed, now, stands)
		}
	}
}

// Terms that are handed in stay as they were.
func TestTermsStay(t *testing.T) {
	b := grown(t)
	terms := roomy([]api.Term{{Key: "app", How: api.Is, Values: roomy([]string{"x", "w"}, "spare")}}, api.Term{Key: "spare"})
	before := fmt.Sprint(terms[:cap(terms)], terms[0].Values[:cap(terms[0].Values)])
	b.list("/", true, terms, "", 3)
	if after := fmt.Sprint(terms[:cap(terms)], terms[0].Values[:cap(terms[0].Values)]); after != before {
		t.Errorf("handed in %s, then %s", before, after)
	}
}

// What is answered is nobody else's: all lists written full, no two share memory, and the world stays.
func TestAnswersAreNew(t *testing.T) {
	told := 0
	for seed := range uint64(60) {
		r := source(10000 + seed)
		b := anyWorld(t, r, 25)
		for version := range int64(10) {
			o := roomyObject(anyObject(r))
			var answers []api.Object
			tried, _, _ := b.world.Try(o, false, version, 0)
			made, _, _ := b.world.Create(o, version)
			changed, _, errno := b.world.Update(o, version, 0)
			got, _ := b.world.Get(o.Path, o.Name)
			again, _ := b.world.Get(o.Path, o.Name)
			answers = append(answers, o, tried, made, changed, got, again)
			for range 2 {
				l, _, _ := b.world.List("/", true, nil, "", 100)
				answers = append(answers, l...)
			}
			if errno == api.OK {
				told++
				gone, _ := b.world.Delete(o.Path, o.Name, 0)
				answers = append(answers, gone)
			}
			stands := fmt.Sprint(b.world.Dump())
			rooms := slices.Concat(roomsOf(answers...), dumpRooms(b.world.Dump()), dumpRooms(b.world.Dump()), statusRooms(b.world))
			if !apart(rooms) {
				t.Fatalf("seed %d: lists share memory: %+v", seed, answers)
			}
			if now := fmt.Sprint(b.world.Dump()); now != stands {
				t.Fatalf("seed %d: behind writing into answers Dump is %s, want %s", seed, now, stands)
			}
		}
	}
	if told < 50 {
		t.Errorf("%d were told", told)
	}
}

func statusRooms(w *admit.World) []room {
	var rooms []room
	for _, q := range w.Dump().Quotas {
		for range 2 {
			l, _ := w.Status(q.Path, q.Name)
			rooms = append(rooms, roomOf(l, func(l *api.Line) *string { return &l.Resource }))
		}
	}
	return rooms
}

// Beside an error every answer is the zero value, and a Detail stands just where one is named.
func TestNothingBesideErrors(t *testing.T) {
	named := []api.Errno{api.ErrAsk, api.ErrMin, api.ErrNoCap, api.ErrMax, api.ErrRatio, api.ErrUnset, api.ErrQuota}
	for seed := range uint64(60) {
		r := source(11000 + seed)
		b := anyWorld(t, r, 25)
		for version := range int64(20) {
			o := anyObject(r)
			o = pick(r, o, o, spoilt(r, o))
			told, d, errno := b.world.Try(o, r.IntN(2) == 0, version, pick(r, 0, wildNumber(r)))
			if errno != api.OK && fmt.Sprintf("%#v", told) != fmt.Sprintf("%#v", api.Object{}) {
				t.Fatalf("%+v: %+v, %d", o, told, errno)
			}
			if slices.Contains(named, errno) != (d != none) {
				t.Fatalf("%+v: %+v, %d", o, d, errno)
			}
			if l, more, errno := b.world.List("/", true, nil, "?", 1); l != nil || more || errno != api.ErrArg {
				t.Fatalf("List = %v, %v, %d", l, more, errno)
			}
		}
	}
}
