package bursar_test

import (
	"strings"
	"testing"

	"bursar/api"
	"bursar/ask"
	"bursar/bursar"
	"bursar/dev"
	"bursar/server"
)

// all: a reply that has all that any reply may tell.
func all() api.Reply {
	return api.Reply{Version: 7, More: true, Detail: api.Detail{Path: "/d", Name: "d", Part: "d", Resource: "d"},
		Objects: []api.Object{{Path: "/a", Name: "x", Priority: 5, Deadline: 9, Version: 3, Labels: []api.Label{{Key: "k"}, {Key: "l", Value: "m"}}, Parts: []api.Part{
			{Name: "p", Requests: []api.Amount{{Name: "cpu", Value: 1500}, {Name: "mem", Value: 0}}, Limits: []api.Amount{{Name: "cpu", Value: 2000}}}, {Name: "q", Limits: []api.Amount{{Name: "m", Value: 2048000}}}, {Name: "r"}}}, {Path: "/b", Name: "y"}},
		Lines:  []api.Line{{Resource: "count", Hard: 2000}, {Resource: "requests.cpu", Hard: api.MaxAmount, Used: 1048576000}},
		Events: []api.Event{{Version: 6, Kind: api.KindNode, Gone: true, Path: "/b"}, {Version: 7, Kind: api.KindBinding, Path: "/", Name: "b"}},
		Names:  []string{"/a", "/b"}, Stat: api.Stat{Generation: 1, Epoch: 2, Version: 7, LogFree: 4, Entries: 5, Unsynced: 6}}
}

const (
	allObjects = "object /a x 5 9 3 label k= label l=m part p req cpu=1500m mem=0 lim cpu=2 part q lim m=2Ki part r\nobject /b y 0 0 0\n"
	allLines   = "line count 2 0\nline requests.cpu 9223372036854775807m 1Mi\n"
	allEvents  = "event 6 0 1 /b -\nevent 7 4 0 / b\n"
	allNames   = "name /a\nname /b\n"
)

// P27.1: of each operation just what it is asked for, in its order.
func TestTellEach(t *testing.T) {
	for op := -2; op < api.OpEnd+3; op++ {
		want := "ok 7\n"
		switch op {
		case api.OpCreate, api.OpUpdate, api.OpDelete, api.OpEvict:
			want += allObjects
		case api.OpGet:
			want += allObjects + allNames + "more\n"
		case api.OpList:
			want += allObjects + "more\n"
		case api.OpStatus:
			want += allLines
		case api.OpWatch:
			want += allEvents
		case api.OpStat:
			want += "stat 1 2 7 4 5 6\n"
		}
		tells(t, op, all(), want)
		r := all()
		r.More, r.Code = false, api.OK
		tells(t, op, r, strings.TrimSuffix(want, "more\n"))
		r.Code = api.ErrGone
		tells(t, op, r, "no 220 7 /d d d d\n")
		stat := ""
		if op == api.OpStat {
			stat = "stat 0 0 0 0 0 0\n"
		}
		tells(t, op, api.Reply{}, "ok 0\n"+stat)
		tells(t, op, api.Reply{Code: -5, Version: -6}, "no -5 -6 - - - -\n")
	}
}

// P27.1: a word of its own that is empty is told as "-"; within a word it stands as it is.
func TestTellEmpty(t *testing.T) {
	for _, c := range []struct {
		d    api.Detail
		want string
	}{
		{api.Detail{}, "- - - -"}, {api.Detail{Path: "/"}, "/ - - -"}, {api.Detail{Name: "n"}, "- n - -"}, {api.Detail{Part: "p"}, "- - p -"}, {api.Detail{Resource: "r"}, "- - - r"}, {api.Detail{Path: "-", Name: " ", Part: "a b", Resource: "\n"}, "-   a b \n"},
	} {
		tells(t, api.OpCreate, api.Reply{Code: 1, Detail: c.d}, "no 1 0 "+c.want+"\n")
	}
	tells(t, api.OpGet, api.Reply{Names: []string{"", "x"}, Objects: []api.Object{{}}}, "ok 0\nobject - - 0 0 0\nname -\nname x\n")
	tells(t, api.OpCreate, api.Reply{Objects: []api.Object{{Priority: -1, Deadline: -2, Version: -3, Labels: []api.Label{{}, {Value: "v"}}, Parts: []api.Part{{Requests: []api.Amount{{}, {Name: "cpu", Value: -1}}}, {Limits: []api.Amount{{Value: -1 << 63}, {Name: "m", Value: 1}}}}}}},
		"ok 0\nobject - - -1 -2 -3 label = label =v part - req =0 cpu= part - lim = m=1m\n")
	tells(t, api.OpStatus, api.Reply{Lines: []api.Line{{}, {Resource: "r", Hard: -1, Used: -2}}}, "ok 0\nline - 0 0\nline r - -\n")
	tells(t, api.OpWatch, api.Reply{Events: []api.Event{{}, {Version: -1, Kind: -2, Gone: true, Name: "n"}, {Kind: 99}}}, "ok 0\nevent 0 0 0 - -\nevent -1 -2 1 - n\nevent 0 99 0 - -\n")
	tells(t, api.OpStat, api.Reply{Stat: api.Stat{Generation: -1, Epoch: -2, Version: -3, LogFree: -4, Entries: -5, Unsynced: -6}}, "ok 0\nstat -1 -2 -3 -4 -5 -6\n")
	tells(t, api.OpList, api.Reply{Objects: []api.Object{{Parts: []api.Part{{Name: "p", Requests: []api.Amount{}, Limits: []api.Amount{}}}}}}, "ok 0\nobject - - 0 0 0 part p\n")
}

// P27.1: a dump's lines stand in api.Dump's order, each list in its own.
func TestDumpEach(t *testing.T) {
	r := all()
	d := api.Dump{Version: 4, Nodes: []string{"/", "/a", ""},
		Quotas:  []api.Quota{{Path: "/a", Name: "q", Scope: api.Scope{Kind: api.ScopeBest}, Hard: []api.Amount{{Name: "count", Value: 1000}, {Name: "b", Value: 1}}}, {Scope: api.Scope{Kind: api.ScopePriority, Arg: 4}}, {Name: "r", Scope: api.Scope{Kind: 6}, Hard: []api.Amount{{Value: -1}}}},
		Limits:  []api.LimitRange{{Path: "/", Name: "l", Rules: []api.Rule{{Resource: "cpu", Min: 0, Max: -1, Default: 5, Request: -1, Ratio: 1500}, rule("m"), {Min: 1, Max: 2, Default: 3, Request: 4, Ratio: 5}}}, {}, {Rules: []api.Rule{{Resource: "x", Min: -2, Max: -3, Default: -4, Request: -5, Ratio: -6}}}},
		Objects: r.Objects, Bindings: []api.Binding{{Path: "/", Name: "b", Subject: "ann", Verb: api.Bind}, {}, {Path: "/a", Verb: 4}, {Verb: -1}, {Verb: api.Govern}, {Verb: api.Write}},
		Uses: []api.Use{{Path: "/", Resource: "count", Value: 1000}, {Scope: api.Scope{Kind: 5, Arg: 10}, Value: -1}, {Path: "/a", Scope: api.Scope{Kind: 1, Arg: 1}, Resource: "b", Value: 1536000}}}
	want := "ok 4\nnode /\nnode /a\nnode -\nquota /a q best count=1 b=1m\nquota - - priority=4\nquota - r - =\n" +
		"limit / l rule cpu min=0 default=5m ratio=1500m rule m rule - min=1m max=2m default=3m request=4m ratio=5m\nlimit - -\nlimit - - rule x min= max= default= request= ratio=\n" + allObjects +
		"bind / b ann bind\nbind - - - read\nbind /a - - -\nbind - - - -\nbind - - - govern\nbind - - - write\nuse / all count 1\nuse - - - -\nuse /a - b 1536\n"
	if told := bursar.Dump(d); told != want {
		t.Errorf("Dump:\n%s\nwant\n%s", told, want)
	}
	if told := bursar.Dump(api.Dump{}); told != "ok 0\n" {
		t.Errorf("Dump of nothing: %q", told)
	}
	if told := bursar.Dump(api.Dump{Version: -1}); told != "ok -1\n" {
		t.Errorf("Dump of version -1: %q", told)
	}
}

// P27.4: the text of a dump in its one form leads back to the dump, so no two have the same.
func TestDumpLeadsBack(t *testing.T) {
	texts := map[string]string{}
	for seed := range uint64(20) {
		r := source(1300 + seed)
		d, _ := dev.New(512)
		server.Format(d, 64)
		s, errno := server.Open(d)
		if errno != api.OK {
			t.Fatalf("Open: %d", errno)
		}
		for range 250 {
			line := randomRequest(r)
			if !isRequest(line) {
				continue
			}
			q := asked(t, line)
			q.Subject = "root"
			if reply := s.Do(q); reply.Code != api.OK || !ask.Changes(q.Op) {
				continue
			}
			all, _ := s.Dump()
			told := bursar.Dump(all)
			if back := undump(t, told); text(back) != text(all) {
				t.Fatalf("%q is read back as %+v, want %+v", told, back, all)
			}
			if was, there := texts[told]; there && was != text(all) {
				t.Fatalf("two dumps have the text %q", told)
			}
			texts[told] = text(all)
		}
	}
	if len(texts) < 500 {
		t.Errorf("%d dumps", len(texts))
	}
}
