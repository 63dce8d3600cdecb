package bursar_test

import (
	"bytes"
	"slices"
	"strings"
	"testing"

	"bursar/api"
	"bursar/bursar"
)

// Nothing is shared: what is handed in is neither changed nor kept, what is answered is new memory; two worlds know nothing of one another.

func TestOverKeepsNothing(t *testing.T) {
	w := behind(t)
	done(t, w, "as root checkpoint")
	roomy := append(make([]byte, 0, 64*512+512), w.Medium()...)
	room := roomy[len(roomy):cap(roomy)]
	before := bytes.Clone(roomy)
	v, errno := bursar.Over(roomy)
	if errno != api.OK {
		t.Fatalf("Over: %d", errno)
	}
	steps(t, v, "open -> ok 3", "as root node add /b -> ok 4", "as root checkpoint -> ok 4", "edit 63 0 :ff -> ok")
	if !bytes.Equal(roomy, before) || slices.ContainsFunc(room, func(b byte) bool { return b != 0 }) {
		t.Errorf("the medium that was handed in has changed")
	}
	clear(roomy)
	steps(t, v, "open -> ok 4", "fsck 9 -> ok 0")
}

func TestMediumIsNew(t *testing.T) {
	w := behind(t)
	done(t, w, "as root checkpoint")
	a, b := w.Medium(), w.Medium()
	want := bytes.Clone(a)
	clear(a)
	a = append(a, 1)
	if !bytes.Equal(b, want) || !bytes.Equal(w.Medium(), want) {
		t.Errorf("writing into a medium changes another")
	}
	steps(t, w, "open -> ok 3")
	if again := w.Medium(); bytes.Equal(again, b) {
		t.Errorf("open writes nothing")
	} else if !bytes.Equal(b, want) {
		t.Errorf("a medium that was told changes later")
	}
}

func TestWorldsApart(t *testing.T) {
	v, w := bursar.New(), bursar.New()
	steps(t, v, S...)
	steps(t, v, "export -> ok", "swap -> ok 1")
	steps(t, w, "dump -> no 191", "import 64 8 -> no 191", "counts -> no 191", "swap -> ok 1", "swap -> ok 0", "new 64 8 -> ok", "open -> ok 0", "dump -> ok 0 | node /")
	steps(t, v, "dump -> no 191", "import 64 8 -> ok", "open -> ok 0", "as root node add /v -> ok 1")
	steps(t, w, "as root node add /w -> ok 1", "dump -> ok 1 | node / | node /w", "crash - -> ok 0")
	steps(t, v, "dump -> ok 1 | node / | node /v")
}

// A stream that was imported is there still, and the same, whatever is done to the device that it came to.
func TestStreamStays(t *testing.T) {
	w := behind(t)
	steps(t, w, "as root sync -> ok 3", "export -> ok", "swap -> ok 1")
	for range 3 {
		steps(t, w, "import 64 8 -> ok", "open -> ok 3", "dump -> "+dumpOfS(), "as root node add /b -> ok 4", "as root checkpoint -> ok 4", "edit 0 0 :00 -> ok", "new 64 8 -> ok")
	}
}

func TestAskIsNew(t *testing.T) {
	for _, line := range []string{"quota set /a q all a=1 b=2", "limit set /a l rule a rule b", "create /a x label a=b label c=d part p req a=1 b=2 lim a=1 b=2 part q req a=1", "list /a where a in (b c),d"} {
		a, b := asked(t, line), asked(t, line)
		want := text(b)
		spoil(&a)
		if text(b) != want || text(asked(t, line)) != want {
			t.Errorf("Ask(%q): writing into a request changes another", line)
		}
		if a := asked(t, line); appended(&a) != want {
			t.Errorf("Ask(%q): appending to a list of a request changes another list", line)
		}
	}
}

// spoil writes into all lists of a request.
func spoil(q *api.Request) {
	for i := range q.Terms {
		for j := range q.Terms[i].Values {
			q.Terms[i].Values[j] = "!"
		}
		q.Terms[i].Key = "!"
	}
	for i := range q.Quota.Hard {
		q.Quota.Hard[i].Name = "!"
	}
	for i := range q.Limit.Rules {
		q.Limit.Rules[i].Resource = "!"
	}
	for i := range q.Object.Labels {
		q.Object.Labels[i].Key = "!"
	}
	for i := range q.Object.Parts {
		p := &q.Object.Parts[i]
		for j := range p.Requests {
			p.Requests[j].Name = "!"
		}
		for j := range p.Limits {
			p.Limits[j].Name = "!"
		}
		p.Name = "!"
	}
}

// appended appends to each list of a request, and tells the request as it was.
func appended(q *api.Request) string {
	_ = append(q.Terms, api.Term{Key: "!"})
	for i := range q.Terms {
		_ = append(q.Terms[i].Values, "!")
	}
	_ = append(q.Quota.Hard, api.Amount{Name: "!"})
	_ = append(q.Limit.Rules, api.Rule{Resource: "!"})
	_ = append(q.Object.Labels, api.Label{Key: "!"})
	_ = append(q.Object.Parts, api.Part{Name: "!"})
	for i := range q.Object.Parts {
		_ = append(q.Object.Parts[i].Requests, api.Amount{Name: "!"})
		_ = append(q.Object.Parts[i].Limits, api.Amount{Name: "!"})
	}
	return text(*q)
}

// Tell and Dump change nothing of what they tell, and none of its spare room.
func TestTellKeeps(t *testing.T) {
	roomy := func() (api.Reply, api.Dump) {
		r := source(31)
		reply, d := all(), randomDump(r)
		reply.Objects = slices.Grow(reply.Objects, 3)
		for i := range reply.Objects {
			for j := range reply.Objects[i].Parts {
				p := &reply.Objects[i].Parts[j]
				p.Requests, p.Limits = slices.Grow(p.Requests, 3), slices.Grow(p.Limits, 3)
			}
		}
		reply.Names, d.Nodes, d.Objects = slices.Grow(reply.Names, 3), slices.Grow(d.Nodes, 3), slices.Grow(reply.Objects, 3)
		d.Limits = slices.Grow([]api.LimitRange{{Rules: slices.Grow([]api.Rule{rule("a"), {}, rule("b")}, 2)}}, 2)
		return reply, d
	}
	spare := func(reply api.Reply, d api.Dump) string {
		return text(reply.Objects[:cap(reply.Objects)]) + text(reply.Names[:cap(reply.Names)]) + text(d.Nodes[:cap(d.Nodes)]) + text(d.Limits[:cap(d.Limits)]) + text(d.Limits[0].Rules[:cap(d.Limits[0].Rules)]) + text(reply) + text(d)
	}
	reply, d := roomy()
	want := spare(roomy())
	for op := range api.OpEnd {
		bursar.Tell(op, reply)
	}
	bursar.Dump(d)
	if got := spare(reply, d); got != want {
		t.Errorf("Tell or Dump changes what it tells")
	}
}

// One outcome: the same script tells the same each time.
func TestOneOutcome(t *testing.T) {
	for seed := range uint64(5) {
		r := source(1200 + seed)
		lines := []string{"new 64 8", "open"}
		for range 400 {
			if s := randomLine(r); isLine(s) {
				lines = append(lines, s)
			}
		}
		script := strings.Join(lines, "\n")
		told, errno := bursar.Play(script)
		if errno != api.OK {
			t.Fatalf("Play: %d", errno)
		}
		for range 3 {
			plays(t, script, told)
		}
	}
}

func isLine(s string) bool {
	_, errno := bursar.Check(s)
	return errno == api.OK && !strings.Contains(s, "\n")
}
