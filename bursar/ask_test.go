package bursar_test

import (
	"strings"
	"testing"

	"bursar/api"
	"bursar/bursar"
)

func amounts(name string, v int64) []api.Amount { return []api.Amount{{Name: name, Value: v}} }

// rule: one that says nothing of its resource.
func rule(resource string) api.Rule {
	return api.Rule{Resource: resource, Min: off, Max: off, Default: off, Request: off, Ratio: off}
}

// P27.1: each request is its operation and its fields, and no others.
func TestAskForms(t *testing.T) {
	named := func(op int) api.Request { return api.Request{Op: op, Path: "/a", Name: "x"} }
	asks(t, "node add /a", api.Request{Op: api.OpNodeAdd, Path: "/a"})
	asks(t, "node drop /a", api.Request{Op: api.OpNodeDrop, Path: "/a"})
	asks(t, "quota drop /a x", named(api.OpQuotaDrop))
	asks(t, "limit drop /a x", named(api.OpLimitDrop))
	asks(t, "delete /a x", named(api.OpDelete))
	asks(t, "get /a x", named(api.OpGet))
	asks(t, "nodes /a", api.Request{Op: api.OpGet, Path: "/a"})
	asks(t, "status /a x", named(api.OpStatus))
	asks(t, "unbind /a x", named(api.OpUnbind))
	asks(t, "sync", api.Request{Op: api.OpSync})
	asks(t, "checkpoint", api.Request{Op: api.OpCheckpoint})
	asks(t, "stat", api.Request{Op: api.OpStat})
	asks(t, "list /a", api.Request{Op: api.OpList, Path: "/a", Most: 100})
	asks(t, "watch /a 0", api.Request{Op: api.OpWatch, Path: "/a", Most: 100})
	asks(t, "watch /a 5 most=-7", api.Request{Op: api.OpWatch, Path: "/a", Version: 5, Most: -7})
	for op, word := range map[int]string{api.OpCreate: "create", api.OpUpdate: "update", api.OpEvict: "evict"} {
		want := named(op)
		want.Object = api.Object{Path: "/a", Name: "x"}
		asks(t, word+" /a x", want)
		want.Version, want.Object.Parts = 3, []api.Part{{Name: "p"}}
		asks(t, word+" /a x must=3 part p", want)
	}
	for verb, word := range []string{"read", "write", "govern", "bind"} {
		want := named(api.OpBind)
		want.Binding = api.Binding{Path: "/a", Name: "x", Subject: "ann", Verb: verb}
		asks(t, "bind /a x ann "+word, want)
	}
	asksNone(t, "", " ", "#sync", "foo", "node", "node add", "node drop", "node /a", "node set /a", "nodes", "nodes /a x", "quota", "quota add /a x", "quota drop", "quota drop /a", "quota drop /a x y", "limit", "limit add /a x", "limit drop /a", "limit drop /a x y",
		"delete", "delete /a", "delete /a x y", "get", "get /a", "get /a x y", "status", "status /a", "status /a x y", "unbind", "unbind /a", "unbind /a x y", "sync x", "checkpoint x", "stat x", "list", "watch", "watch /a", "watch /a x", "create", "create /a", "update /a", "evict /a",
		"bind", "bind /a", "bind /a x", "bind /a x ann", "bind /a x ann Read", "bind /a x ann 0", "bind /a x ann -", "bind /a x ann read read", "bind /a x read", "drop /a x", "add /a", "set", "SYNC", "remove /a x")
}

// P27.1: dry may stand ahead of any request, once.
func TestAskDry(t *testing.T) {
	for _, line := range []string{"node add /a", "sync", "get dry dry", "nodes dry", "list /a", "watch /a 1", "create /a x part p"} {
		want := asked(t, line)
		want.Dry = true
		asks(t, "dry "+line, want)
		asks(t, "\t dry\t"+line+" # dry", want)
		asksNone(t, "dry dry "+line, line+" dry", "Dry "+line)
	}
	asksNone(t, "dry", "dry #sync", "dry foo", "drysync")
}

// P27.1: a request's text may be of any length, has blanks and a comment like a line, and no newline.
func TestAskText(t *testing.T) {
	long := strings.Repeat("x", 1<<20)
	asks(t, "node add "+long, api.Request{Op: api.OpNodeAdd, Path: long})
	asks(t, strings.Repeat("\t ", 1<<19)+"sync#"+long, api.Request{Op: api.OpSync})
	asks(t, "node\tadd /a#/b", api.Request{Op: api.OpNodeAdd, Path: "/a"})
	asks(t, "node add \xff\x00\r", api.Request{Op: api.OpNodeAdd, Path: "\xff\x00\r"})
	asksNone(t, "sync\n", "\nsync", "sync # \n", "node add\n/a", "#\nsync", "as root sync", "node add #/a")
	q := asked(t, "create /a x"+strings.Repeat(" label k=v", 5000)+strings.Repeat(" part p", 5000)+" req"+strings.Repeat(" cpu=1", 5000))
	if o := q.Object; len(o.Labels) != 5000 || len(o.Parts) != 5000 || len(o.Parts[4999].Requests) != 5000 {
		t.Errorf("%d labels, %d parts", len(o.Labels), len(o.Parts))
	}
	if q := asked(t, "limit set /a l"+strings.Repeat(" rule rule", 5000)); len(q.Limit.Rules) != 5000 || q.Limit.Rules[4999] != rule("rule") {
		t.Errorf("%d rules", len(q.Limit.Rules))
	}
	if q := asked(t, "quota set /a l all"+strings.Repeat(" =1", 5000)); len(q.Quota.Hard) != 5000 || q.Quota.Hard[4999] != (api.Amount{Value: 1000}) {
		t.Errorf("%d amounts", len(q.Quota.Hard))
	}
}

// P27.1: a quota: its scope, and amounts in the line's order, whatever they are called.
func TestAskQuota(t *testing.T) {
	quota := func(s api.Scope, hard ...api.Amount) api.Request {
		return api.Request{Op: api.OpQuotaSet, Path: "/a", Name: "q", Quota: api.Quota{Path: "/a", Name: "q", Scope: s, Hard: hard}}
	}
	for kind, word := range []string{"all", "best", "notbest", "ends", "notends"} {
		asks(t, "quota set /a q "+word, quota(api.Scope{Kind: kind}))
	}
	asks(t, "quota set /a q priority=9", quota(api.Scope{Kind: api.ScopePriority, Arg: 9}))
	asks(t, "quota set /a q all b=1 a=0.0001 b=2Gi =3 c.d-e=4m all=5", quota(api.Scope{}, api.Amount{Name: "b", Value: 1000}, api.Amount{Name: "a", Value: 1}, api.Amount{Name: "b", Value: 2147483648000},
		api.Amount{Value: 3000}, api.Amount{Name: "c.d-e", Value: 4}, api.Amount{Name: "all", Value: 5000}))
	asks(t, "quota set /a q all x=9223372036854775807m", quota(api.Scope{}, api.Amount{Name: "x", Value: api.MaxAmount}))
	asksNone(t, "quota set", "quota set /a", "quota set /a q", "quota set /a q All", "quota set /a q priority=10", "quota set /a q priority=", "quota set /a q -", "quota set /a q count=1", "quota set /a q all count", "quota set /a q all count=", "quota set /a q all count=x", "quota set /a q all count=-1",
		"quota set /a q all count==1", "quota set /a q all a=1=2", "quota set /a q all a=9223372036854775808m", "quota set /a q all a=12345678901234567890", "quota set /a q all a=1 b", "quota set /a q all b a=1", "quota set /a q all all", "quota set /a q all a= 1", "quota set /a q all a =1", "quota drop /a q all")
}

// P27.1: a limit range: each rule's numbers in their order, each at most once; what isn't said is -1.
func TestAskLimit(t *testing.T) {
	limit := func(l ...api.Rule) api.Request {
		return api.Request{Op: api.OpLimitSet, Path: "/a", Name: "l", Limit: api.LimitRange{Path: "/a", Name: "l", Rules: l}}
	}
	asks(t, "limit set /a l", limit())
	asks(t, "limit set /a l rule cpu", limit(rule("cpu")))
	full := api.Rule{Resource: "cpu", Min: 1000, Max: 2, Default: 0, Request: 4000000, Ratio: 5120000}
	asks(t, "limit set /a l rule cpu min=1 max=2m default=0 request=4k ratio=5Ki", limit(full))
	one := func(set func(*api.Rule)) api.Rule {
		r := rule("cpu")
		set(&r)
		return r
	}
	asks(t, "limit set /a l rule cpu min=1", limit(one(func(r *api.Rule) { r.Min = 1000 })))
	asks(t, "limit set /a l rule cpu max=1", limit(one(func(r *api.Rule) { r.Max = 1000 })))
	asks(t, "limit set /a l rule cpu default=1", limit(one(func(r *api.Rule) { r.Default = 1000 })))
	asks(t, "limit set /a l rule cpu request=1", limit(one(func(r *api.Rule) { r.Request = 1000 })))
	asks(t, "limit set /a l rule cpu ratio=1", limit(one(func(r *api.Rule) { r.Ratio = 1000 })))
	asks(t, "limit set /a l rule cpu ratio=1 rule cpu", limit(one(func(r *api.Rule) { r.Ratio = 1000 }), rule("cpu")))
	asks(t, "limit set /a l rule rule rule min=1 rule - rule cpu=1", limit(rule("rule"), rule("min=1"), rule("-"), rule("cpu=1")))
	asksNone(t, "limit set", "limit set /a", "limit set /a l rule", "limit set /a l cpu", "limit set /a l min=1", "limit set /a l rule cpu min", "limit set /a l rule cpu min=", "limit set /a l rule cpu min=-1", "limit set /a l rule cpu min=x", "limit set /a l rule cpu max=1 min=1", "limit set /a l rule cpu min=1 min=1",
		"limit set /a l rule cpu default=1 max=1", "limit set /a l rule cpu request=1 default=1", "limit set /a l rule cpu ratio=1 request=1", "limit set /a l rule cpu ratio=1 ratio=1", "limit set /a l rule cpu mem", "limit set /a l rule cpu Min=1", "limit set /a l rule cpu min=9999999999999999999", "limit set /a l rule cpu rule")
}

// P27.1: an object: what may be left out stands in its order, and what says what follows is told by its place.
func TestAskObject(t *testing.T) {
	object := func(set func(*api.Object)) api.Request {
		o := api.Object{Path: "/a", Name: "x"}
		set(&o)
		return api.Request{Op: api.OpCreate, Path: "/a", Name: "x", Object: o}
	}
	parts := func(l ...api.Part) api.Request { return object(func(o *api.Object) { o.Parts = l }) }
	labels := func(l ...api.Label) api.Request { return object(func(o *api.Object) { o.Labels = l }) }
	asks(t, "create /a x prio=0000000012", object(func(o *api.Object) { o.Priority = 12 }))
	asks(t, "create /a x prio=-9999999999", object(func(o *api.Object) { o.Priority = -9999999999 }))
	asks(t, "create /a x ends=9999999999", object(func(o *api.Object) { o.Deadline = 9999999999 }))
	asks(t, "create /a x prio=1 ends=-2", object(func(o *api.Object) { o.Priority, o.Deadline = 1, -2 }))
	asks(t, "create /a x label b=2 label a=1 label = label k=v=w label part=p", labels(api.Label{Key: "b", Value: "2"}, api.Label{Key: "a", Value: "1"}, api.Label{}, api.Label{Key: "k", Value: "v=w"}, api.Label{Key: "part", Value: "p"}))
	asks(t, "create /a x part p part p", parts(api.Part{Name: "p"}, api.Part{Name: "p"}))
	asks(t, "create /a x part part part req part lim part label req", parts(api.Part{Name: "part"}, api.Part{Name: "req"}, api.Part{Name: "lim"}, api.Part{Name: "label"})) // the last req has nothing behind it
	asks(t, "create /a x part p req lim", parts(api.Part{Name: "p"}))
	asks(t, "create /a x part p lim cpu=2", parts(api.Part{Name: "p", Limits: amounts("cpu", 2000)}))
	asks(t, "create /a x part lim lim lim=2 req=3", parts(api.Part{Name: "lim", Limits: []api.Amount{{Name: "lim", Value: 2000}, {Name: "req", Value: 3000}}}))
	asks(t, "create /a x part a=1 req a=1 part=2 =3", parts(api.Part{Name: "a=1", Requests: []api.Amount{{Name: "a", Value: 1000}, {Name: "part", Value: 2000}, {Value: 3000}}}))
	asks(t, "create prio=1 ends=2", api.Request{Op: api.OpCreate, Path: "prio=1", Name: "ends=2", Object: api.Object{Path: "prio=1", Name: "ends=2"}})
	asks(t, "create part part part part", api.Request{Op: api.OpCreate, Path: "part", Name: "part", Object: api.Object{Path: "part", Name: "part", Parts: []api.Part{{Name: "part"}}}})
	asks(t, "delete must=1 must=2 must=3", api.Request{Op: api.OpDelete, Path: "must=1", Name: "must=2", Version: 3})
	asksNone(t, "create /a x y", "create /a x prio=", "create /a x prio=x", "create /a x prio=+1", "create /a x prio=10000000000", "create /a x prio=1 prio=1", "create /a x ends=1 prio=1", "create /a x ends=", "create /a x ends=1.5", "create /a x must=1 ends=1", "create /a x must=1 prio=1", "create /a x must=1 must=1",
		"create /a x label", "create /a x label a", "create /a x label label", "create /a x a=b", "create /a x label a=b c=d", "create /a x label a=b prio=1", "create /a x label a=b must=1", "create /a x part", "create /a x part p label a=b", "create /a x part p prio=1", "create /a x part p must=1", "create /a x part p q",
		"create /a x part p cpu=1", "create /a x part p req=1", "create /a x part p req cpu", "create /a x part p req cpu=x", "create /a x part p req cpu=", "create /a x part p req cpu=1 req mem=1", "create /a x part p lim cpu=1 req cpu=1", "create /a x part p lim cpu=1 lim mem=1", "create /a x part p req label a=b",
		"create /a x req cpu=1", "create /a x lim", "create /a x part p req cpu=1 part", "create /a x part p req lim lim", "create /a x part p req req")
}

// P27.1: versions, at their edges.
func TestAskVersion(t *testing.T) {
	for word, v := range map[string]int64{"0": 0, "7": 7, "0000000000000000001": 1, "4611686018427387904": 1 << 62, "4611686018427387903": 1<<62 - 1, "0000000000000000000": 0} {
		asks(t, "watch / "+word, api.Request{Op: api.OpWatch, Path: "/", Version: v, Most: 100})
		asks(t, "delete / x must="+word, api.Request{Op: api.OpDelete, Path: "/", Name: "x", Version: v})
		asks(t, "update / x must="+word, api.Request{Op: api.OpUpdate, Path: "/", Name: "x", Version: v, Object: api.Object{Path: "/", Name: "x"}})
	}
	for _, word := range []string{"", "-0", "-1", "+1", "4611686018427387905", "9223372036854775808", "9999999999999999999", "00000000000000000000", "18446744073709551616", "1.0", "x", "1x", "0x1", "1_0", "- 1"} {
		asksNone(t, "watch / "+word, "delete / x must="+word, "create / x must="+word)
	}
}

// P27.1: a list's options stand in their order; the selector is what stands behind where, its blanks as they are.
func TestAskList(t *testing.T) {
	list := func(set func(*api.Request)) api.Request {
		q := api.Request{Op: api.OpList, Path: "/a", Most: 100}
		set(&q)
		return q
	}
	where := func(l ...api.Term) api.Request { return list(func(q *api.Request) { q.Terms = l }) }
	asks(t, "list /a deep", list(func(q *api.Request) { q.Deep = true }))
	asks(t, "list /a from=", list(func(q *api.Request) {}))
	asks(t, "list /a from=x=y", list(func(q *api.Request) { q.From = "x=y" }))
	asks(t, "list /a from=where", list(func(q *api.Request) { q.From = "where" }))
	asks(t, "list /a most=0", list(func(q *api.Request) { q.Most = 0 }))
	asks(t, "list /a most=-9999999999", list(func(q *api.Request) { q.Most = -9999999999 }))
	asks(t, "list /a deep from=f most=5 where !k", list(func(q *api.Request) {
		q.Deep, q.From, q.Most, q.Terms = true, "f", 5, []api.Term{{Key: "k", How: api.HasNot}}
	}))
	asks(t, "list deep deep", api.Request{Op: api.OpList, Path: "deep", Deep: true, Most: 100})
	asks(t, "list where", api.Request{Op: api.OpList, Path: "where", Most: 100})
	asks(t, "list most=1 most=2", api.Request{Op: api.OpList, Path: "most=1", Most: 2})
	asks(t, "list /a where where", where(api.Term{Key: "where", How: api.Has}))
	asks(t, "list /a where deep", where(api.Term{Key: "deep", How: api.Has}))
	asks(t, "list /a where  \t", where())
	asks(t, "list /a where \t a=b \t # c", where(api.Term{Key: "a", Values: []string{"b"}}))
	asks(t, "list /a where a notin (b c),d!=", where(api.Term{Key: "a", How: api.IsNot, Values: []string{"b", "c"}}, api.Term{Key: "d", How: api.IsNot, Values: []string{""}}))
	asks(t, "list /a where from=x", where(api.Term{Key: "from", Values: []string{"x"}}))
	asksNone(t, "list /a x", "list /a from", "list /a from=x deep", "list /a most=1 deep", "list /a most=1 from=x", "list /a most=", "list /a most=x", "list /a most=1 most=1", "list /a deep deep", "list /a from= x", "list /a from=a from=b", "list /a where a b", "list /a where a=b, c", "list /a where a ,b",
		"list /a where a in  (b c)", "list /a where a in\t(b c)", "list /a where a  in (b c)", "list /a where a in (b  c)", "list /a where a in (b\tc)", "list /a where a in (b c )", "list /a where A", "list /a where a=b x", "list /a where a,b where c", "list /a Deep", "list /a where=a",
		"watch / 1 most", "watch / 1 most=", "watch / 1 most=x", "watch / 1 most=1 most=1", "watch / most=1", "watch / 1 2", "watch / 1 from=x", "watch / most=1 1")
}

// P27.1: Do asks with just the request that Ask tells.
func TestAskIsAs(t *testing.T) {
	for _, line := range []string{"node add /b", "list / deep where a in (b c)", "list / deep where a in  (b c)", "create /a y part p req", "sync", "dry sync", "dry dry sync", "watch / 1 most=1", "bind /a b ann read", "bind /a b ann reads"} {
		w := behind(t)
		_, errno := w.Do("as root " + line)
		if _, is := bursar.Ask(line); is != (errno == api.OK) {
			t.Errorf("Ask(%q): %v; as root: %d", line, is, errno)
		}
	}
}
