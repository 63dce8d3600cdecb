package server_test

import (
	"fmt"
	"slices"
	"testing"

	"bursar/api"
)

// room: a list with its spare room, by a text of each of its elements.
type room []*string

func roomOf[T any](l []T, text func(*T) *string) room {
	var all room
	l = l[:cap(l)]
	for i := range l {
		all = append(all, text(&l[i]))
	}
	return all
}

func amountRoom(l []api.Amount) room {
	return roomOf(l, func(a *api.Amount) *string { return &a.Name })
}

func textRoom(l []string) room { return roomOf(l, func(s *string) *string { return s }) }

func objectRooms(l ...api.Object) []room {
	var rooms []room
	for _, o := range l {
		rooms = append(rooms, roomOf(o.Labels, func(l *api.Label) *string { return &l.Key }), roomOf(o.Parts, func(p *api.Part) *string { return &p.Name }))
		for _, p := range o.Parts {
			rooms = append(rooms, amountRoom(p.Requests), amountRoom(p.Limits))
		}
	}
	return rooms
}

func dumpRooms(d api.Dump) []room {
	rooms := append(objectRooms(d.Objects...),
		textRoom(d.Nodes),
		roomOf(d.Quotas, func(q *api.Quota) *string { return &q.Name }),
		roomOf(d.Limits, func(l *api.LimitRange) *string { return &l.Name }),
		roomOf(d.Objects, func(o *api.Object) *string { return &o.Name }),
		roomOf(d.Bindings, func(b *api.Binding) *string { return &b.Subject }),
		roomOf(d.Uses, func(u *api.Use) *string { return &u.Path }))
	for _, q := range d.Quotas {
		rooms = append(rooms, amountRoom(q.Hard))
	}
	for _, l := range d.Limits {
		rooms = append(rooms, roomOf(l.Rules, func(r *api.Rule) *string { return &r.Resource }))
	}
	return rooms
}

func replyRooms(r api.Reply) []room {
	return append(objectRooms(r.Objects...),
		roomOf(r.Objects, func(o *api.Object) *string { return &o.Name }),
		roomOf(r.Lines, func(l *api.Line) *string { return &l.Resource }),
		roomOf(r.Events, func(e *api.Event) *string { return &e.Path }),
		textRoom(r.Names))
}

func requestRooms(r api.Request) []room {
	rooms := append(objectRooms(r.Object), amountRoom(r.Quota.Hard), roomOf(r.Limit.Rules, func(r *api.Rule) *string { return &r.Resource }), roomOf(r.Terms, func(t *api.Term) *string { return &t.Key }))
	for _, term := range r.Terms {
		rooms = append(rooms, textRoom(term.Values))
	}
	return rooms
}

// apart writes every list full, each with a text of its own: if two share memory, the later text stands in the earlier list.
func apart(rooms []room) bool {
	for i, one := range rooms {
		for _, text := range one {
			*text = fmt.Sprint("list ", i)
		}
	}
	for i, one := range rooms {
		for _, text := range one {
			if *text != fmt.Sprint("list ", i) {
				return false
			}
		}
	}
	return true
}

// roomy: a list with spare room, which is filled.
func roomy[T any](l []T, fill T) []T {
	return append(slices.Clone(l), fill, fill, fill)[:len(l)]
}

func roomyRequest(r api.Request) api.Request {
	spare := api.Amount{Name: "spare", Value: 77}
	r.Object.Labels = roomy(r.Object.Labels, api.Label{Key: "spare"})
	r.Object.Parts = roomy(r.Object.Parts, api.Part{Name: "spare"})
	for i, p := range r.Object.Parts {
		r.Object.Parts[i].Requests, r.Object.Parts[i].Limits = roomy(p.Requests, spare), roomy(p.Limits, spare)
	}
	r.Quota.Hard = roomy(r.Quota.Hard, spare)
	r.Limit.Rules = roomy(r.Limit.Rules, api.Rule{Resource: "spare"})
	r.Terms = roomy(r.Terms, api.Term{Key: "spare"})
	for i := range r.Terms {
		r.Terms[i].Values = roomy(r.Terms[i].Values, "spare")
	}
	return r
}

// contents tells all that lies in some lists, their spare room too.
func contents(rooms []room) string {
	all := ""
	for _, one := range rooms {
		for _, s := range one {
			all += *s + ","
		}
		all += ";"
	}
	return all
}

// Nothing that is handed in is changed or kept; what is answered is new memory, of which no two lists share any: written full, all of it, it changes nothing that the server tells later.
func TestNothingShared(t *testing.T) {
	did, told := map[int]int{}, map[int]int{}
	for seed := range uint64(60) {
		r := source(9000 + seed)
		b := newBoth(t, 512, 32)
		b.begin(r)
		for range 60 {
			q := anyRequest(r, b.paper)
			q.Subject = "root"
			q = roomyRequest(q)
			handed := requestRooms(q)
			was, before := contents(handed), text(q)
			reply := b.s.Do(q)
			if contents(handed) != was || text(q) != before {
				t.Fatalf("handed in %s, then %s", before, text(q))
			}
			if reply.Code == api.OK {
				did[q.Op]++
			}
			if len(reply.Objects)+len(reply.Lines)+len(reply.Events)+len(reply.Names) > 0 {
				told[q.Op]++
			}
			again := b.s.Do(root(list("/", true, "", 100)))
			first, second := dumped(t, b.s), dumped(t, b.s)
			stands := text(first)
			watched := b.s.Do(root(watching("/", b.s.Version()-min(b.s.Version(), 5), 100)))
			if !apart(slices.Concat(handed, replyRooms(reply), replyRooms(again), dumpRooms(first), dumpRooms(second))) {
				t.Fatalf("%+v: lists share memory", q)
			}
			if now := text(dumped(t, b.s)); now != stands {
				t.Fatalf("behind writing into all lists Dump is %s, want %s", now, stands)
			}
			if now := b.s.Do(root(watching("/", b.s.Version()-min(b.s.Version(), 5), 100))); text(now) != text(watched) {
				t.Fatalf("behind writing into all lists the events are %v, want %v", now.Events, watched.Events)
			}
			b.paper.become(dumped(t, b.s))
			b.paper.opened(b.s.Version())
		}
		// What was written into lists has come into the store as little as into the memory.
		b.opens()
	}
	for op := 1; op < api.OpEnd; op++ {
		if did[op] < 10 {
			t.Errorf("operation %d was done %d times", op, did[op])
		}
	}
	for _, op := range []int{api.OpCreate, api.OpUpdate, api.OpDelete, api.OpGet, api.OpList, api.OpStatus, api.OpWatch, api.OpEvict} {
		if told[op] < 10 {
			t.Errorf("operation %d told something %d times", op, told[op])
		}
	}
}

// The bytes that are handed in stay as they are and are not kept, and those that are answered are new.
func TestBytesAreNotShared(t *testing.T) {
	_, s := wide(t)
	_, b, _ := plain(root(create(obj("/", "x", 0, 5))))
	b = roomy(b, 77)
	was := string(b[:cap(b)])
	first := s.Handle(b)
	if string(b[:cap(b)]) != was {
		t.Errorf("handed in %x, then %x", was, b[:cap(b)])
	}
	stands := text(dumped(t, s))
	clear(b[:cap(b)])
	clear(first[:cap(first)])
	if text(dumped(t, s)) != stands {
		t.Errorf("behind writing into bytes: %s, want %s", text(dumped(t, s)), stands)
	}
	one, other := s.Handle([]byte("x")), s.Handle([]byte("x"))
	clear(one[:cap(one)])
	if string(other) != "A\x01\x00\x04\x02\x00\x00\x00\x00" {
		t.Errorf("two answers share memory: %x", other)
	}
}

// Two servers know nothing of one another.
func TestServersAreApart(t *testing.T) {
	_, one := wide(t)
	_, other := wide(t)
	done(t, one, nodeAdd("/a"))
	done(t, one, bind(bound("/", "b", "ann", api.Read)))
	is(t, other, root(get("/", "")), ok(0))
	is(t, other, as("ann", get("/", "")), noBy(api.ErrDenied, 0, api.Detail{Path: "/"}))
	is(t, other, root(watching("/", 0, 9)), ok(0))
}
