package server_test

import (
	"fmt"
	"maps"
	"math"
	"math/rand/v2"
	"slices"
	"strings"

	"bursar/api"
	"bursar/ask"
)

var (
	paths = []string{"/", "/a", "/a", "/a/b", "/a/b/c", "/ab", "/a-b", "/b"} // some begin alike without lying below one another
	hards = []string{"count", "count", "requests.cpu", "requests.cpu", "limits.cpu", "requests.mem"}
	ops   = []int{
		api.OpNodeAdd, api.OpNodeAdd, api.OpNodeAdd, api.OpNodeDrop, api.OpNodeDrop,
		api.OpQuotaSet, api.OpQuotaSet, api.OpQuotaDrop, api.OpLimitSet, api.OpLimitDrop,
		api.OpCreate, api.OpCreate, api.OpCreate, api.OpCreate, api.OpCreate, api.OpUpdate, api.OpUpdate, api.OpDelete, api.OpDelete,
		api.OpGet, api.OpGet, api.OpList, api.OpStatus, api.OpWatch, api.OpBind, api.OpBind, api.OpUnbind,
		api.OpEvict, api.OpEvict, api.OpEvict, api.OpSync, api.OpCheckpoint, api.OpStat,
	}
)

// seldom: mostly the first.
func seldom[T any](r *rand.Rand, often, other T) T {
	if r.IntN(60) == 0 {
		return other
	}
	return often
}

func wildText(r *rand.Rand) string {
	return pick(r, "/", "/a", "x", "cpu", "root", "", "?", "A", "a/b", "/a x", "//", "/a/", "\x00", "\xff", strings.Repeat("x", 33), strings.Repeat("/x", 33))
}

func wildNumber(r *rand.Rand) int64 {
	return pick[int64](r, math.MinInt64, -2, -1, 0, 1, 9, 10, 100, 101, 1<<60, 1<<60+1, math.MaxInt64)
}

func anyPath(r *rand.Rand) string { return seldom(r, pick(r, paths...), wildText(r)) }

func anyName(r *rand.Rand) string {
	return seldom(r, pick(r, "x", "y", "z", "x-1", "w", "v"), wildText(r))
}

func anySubject(r *rand.Rand) string {
	return pick(r, "root", "root", "root", "root", "root", "root", "ann", "ann", "bob", seldom(r, "root", wildText(r)))
}

func anyAmounts(r *rand.Rand, names ...string) []api.Amount {
	values := map[string]int64{}
	for range pick(r, 1, 1, 2) {
		values[pick(r, names...)] = seldom(r, pick[int64](r, 0, 1, 100, 500, 1000*r.Int64N(6)), wildNumber(r))
	}
	var l []api.Amount
	for _, name := range slices.Sorted(maps.Keys(values)) {
		l = append(l, api.Amount{Name: name, Value: values[name]})
	}
	return l
}

func anyObject(r *rand.Rand) api.Object {
	o := api.Object{Path: anyPath(r), Name: anyName(r), Priority: seldom(r, pick(r, 0, 0, 0, 5, 9), int(wildNumber(r))), Deadline: seldom(r, pick[int64](r, 0, 0, 7), wildNumber(r)), Version: seldom(r, 0, wildNumber(r))}
	for range pick(r, 0, 0, 1, 2) {
		o.Labels = append(o.Labels, api.Label{Key: pick(r, "k", "l", "m"), Value: pick(r, "", "v", "w")})
	}
	o.Labels = slices.CompactFunc(o.Labels, func(a, b api.Label) bool { return a.Key == b.Key })
	for _, name := range []string{"b", "a"}[:pick(r, 1, 1, 2)] {
		p := api.Part{Name: seldom(r, name, wildText(r))}
		if r.IntN(3) > 0 {
			p.Requests = anyAmounts(r, "cpu", "cpu", "mem")
		}
		if r.IntN(4) == 0 {
			p.Limits = anyAmounts(r, "cpu", "mem")
		}
		o.Parts = append(o.Parts, p)
	}
	return o
}

func anyQuota(r *rand.Rand) api.Quota {
	q := api.Quota{Path: anyPath(r), Name: anyName(r), Scope: api.Scope{Kind: seldom(r, pick(r, 0, 0, 0, 2, 4), r.IntN(8))}, Hard: anyAmounts(r, hards...)}
	for i, a := range q.Hard {
		if a.Name == "count" {
			q.Hard[i].Value = 1000 * (1 + r.Int64N(4))
		} else if r.IntN(2) == 0 {
			q.Hard[i].Value += 3000
		}
	}
	return q
}

func anyLimit(r *rand.Rand) api.LimitRange {
	rule := api.Rule{Resource: pick(r, "cpu", "mem"), Min: pick[int64](r, off, 100), Max: pick[int64](r, off, off, 1000), Default: pick[int64](r, off, off, 2000), Request: pick[int64](r, off, 1, 500), Ratio: off}
	return api.LimitRange{Path: anyPath(r), Name: anyName(r), Rules: []api.Rule{seldom(r, rule, api.Rule{Resource: wildText(r), Min: wildNumber(r)})}}
}

func anyBinding(r *rand.Rand) api.Binding {
	return api.Binding{Path: anyPath(r), Name: anyName(r), Subject: seldom(r, pick(r, "ann", "ann", "bob", "root"), wildText(r)), Verb: seldom(r, r.IntN(4), int(wildNumber(r)))}
}

func anyTerms(r *rand.Rand) []api.Term {
	term := api.Term{Key: pick(r, "k", "l"), How: r.IntN(4)}
	if term.How == api.Is || term.How == api.IsNot {
		term.Values = []string{pick(r, "v", "w", "")}
	}
	return pick(r, nil, nil, []api.Term{pick(r, term, term, term, api.Term{Key: wildText(r), How: int(wildNumber(r))})})
}

// littered: every field has something, whatever the operation.
func littered(r *rand.Rand, op int) api.Request {
	return api.Request{
		Op: op, Subject: anySubject(r), Path: anyPath(r), Name: anyName(r), Object: anyObject(r), Quota: anyQuota(r), Limit: anyLimit(r), Binding: anyBinding(r),
		Terms: anyTerms(r), Version: seldom(r, 0, wildNumber(r)), Most: seldom(r, pick(r, 1, 2, 100), int(wildNumber(r))), Deep: r.IntN(2) == 0, Dry: r.IntN(5) == 0,
		From: seldom(r, pick(r, "", "x", "/a x", "/a/b y"), wildText(r)),
	}
}

// aimed: a request that mostly speaks of something that is there.
func aimed(r *rand.Rand, p *paper, q api.Request) api.Request {
	d := p.state
	switch {
	case (q.Op == api.OpUpdate || q.Op == api.OpDelete || q.Op == api.OpGet) && len(d.Objects) > 0:
		o := pick(r, d.Objects...)
		q.Path, q.Name = o.Path, o.Name
		q.Object.Path, q.Object.Name = o.Path, o.Name
		q.Version = pick(r, 0, 0, o.Version, o.Version, wildNumber(r))
		if q.Op == api.OpGet && r.IntN(2) == 0 {
			q.Name = ""
		}
	case (q.Op == api.OpQuotaDrop || q.Op == api.OpStatus) && len(d.Quotas) > 0:
		one := pick(r, d.Quotas...)
		q.Path, q.Name = one.Path, one.Name
	case q.Op == api.OpLimitDrop && len(d.Limits) > 0:
		one := pick(r, d.Limits...)
		q.Path, q.Name = one.Path, one.Name
	case q.Op == api.OpUnbind && len(d.Bindings) > 0:
		one := pick(r, d.Bindings...)
		q.Path, q.Name = one.Path, one.Name
	case q.Op == api.OpEvict:
		q.Object.Priority = pick(r, 5, 9)
	case q.Op == api.OpWatch:
		q.Version = p.hub.Low() + r.Int64N(p.hub.High()-p.hub.Low()+1)
	}
	return q
}

// anyRequest: of any operation, now and then of none.
func anyRequest(r *rand.Rand, p *paper) api.Request {
	q := littered(r, pick(r, ops...))
	if r.IntN(5) > 0 {
		q = aimed(r, p, q)
	}
	q.Op = seldom(r, q.Op, seldom(r, q.Op, int(wildNumber(r))))
	return q
}

// bulky: an object of some hundred to some thousand bytes.
func bulky(r *rand.Rand, path string) api.Object {
	o := api.Object{Path: path, Name: fmt.Sprint("n", r.IntN(40))}
	for i := range 1 + r.IntN(5) {
		p := api.Part{Name: fmt.Sprint("p", i)}
		for k := range 1 + r.IntN(15) {
			p.Requests = append(p.Requests, api.Amount{Name: strings.Repeat("q", 30+k), Value: r.Int64N(1 << 40)})
		}
		o.Parts = append(o.Parts, p)
	}
	return o
}

// plain: the request as its bytes tell it; false: it has none.
func plain(q api.Request) (api.Request, []byte, bool) {
	b, errno := ask.EncodeRequest(q)
	if errno != api.OK {
		return q, nil, false
	}
	q, errno = ask.DecodeRequest(b)
	return q, b, errno == api.OK
}
