package bursar_test

import (
	"math/big"
	"slices"
	"strconv"
	"strings"
	"testing"

	"bursar/api"
	"bursar/quant"
	"bursar/scope"
)

// undump reads a dump's text back, by its words alone.
func undump(t testing.TB, told string) api.Dump {
	t.Helper()
	lines := strings.Split(strings.TrimSuffix(told, "\n"), "\n")
	if !strings.HasPrefix(lines[0], "ok ") {
		t.Fatalf("no dump: %q", short(told))
	}
	d := api.Dump{Version: int64(whole(t, lines[0][3:]))}
	for _, l := range lines[1:] {
		p := strings.Split(l, " ")
		switch p[0] {
		case "node":
			d.Nodes = append(d.Nodes, p[1])
		case "quota":
			s, errno := scope.Parse(p[3])
			if errno != api.OK {
				t.Fatalf("%q", l)
			}
			hard, _ := unpair(t, p[4:])
			d.Quotas = append(d.Quotas, api.Quota{Path: p[1], Name: p[2], Scope: s, Hard: hard})
		case "limit":
			d.Limits = append(d.Limits, unlimit(t, p))
		case "object":
			d.Objects = append(d.Objects, unobject(t, p))
		case "bind":
			d.Bindings = append(d.Bindings, api.Binding{Path: p[1], Name: p[2], Subject: p[3], Verb: slices.Index([]string{"read", "write", "govern", "bind"}, p[4])})
		case "use":
			s, errno := scope.Parse(p[2])
			v, other := quant.Parse(p[4])
			if errno != api.OK || other != api.OK {
				t.Fatalf("%q", l)
			}
			d.Uses = append(d.Uses, api.Use{Path: p[1], Scope: s, Resource: p[3], Value: v})
		default:
			t.Fatalf("a dump tells %q", l)
		}
	}
	return d
}

func whole(t testing.TB, s string) int {
	t.Helper()
	n, err := strconv.Atoi(s)
	if err != nil {
		t.Fatal(err)
	}
	return n
}

// unpair reads the words that are pairs, and tells the others.
func unpair(t testing.TB, p []string) ([]api.Amount, []string) {
	t.Helper()
	var l []api.Amount
	for len(p) > 0 && strings.Contains(p[0], "=") {
		name, text, _ := strings.Cut(p[0], "=")
		v, errno := quant.Parse(text)
		if errno != api.OK {
			t.Fatalf("%q", p)
		}
		l, p = append(l, api.Amount{Name: name, Value: v}), p[1:]
	}
	return l, p
}

func unlimit(t testing.TB, p []string) api.LimitRange {
	t.Helper()
	l := api.LimitRange{Path: p[1], Name: p[2]}
	for p = p[3:]; len(p) > 0; {
		r := rule(p[1])
		var said []api.Amount
		said, p = unpair(t, p[2:])
		for _, a := range said {
			*map[string]*int64{"min": &r.Min, "max": &r.Max, "default": &r.Default, "request": &r.Request, "ratio": &r.Ratio}[a.Name] = a.Value
		}
		l.Rules = append(l.Rules, r)
	}
	return l
}

func unobject(t testing.TB, p []string) api.Object {
	t.Helper()
	o := api.Object{Path: p[1], Name: p[2], Priority: whole(t, p[3]), Deadline: int64(whole(t, p[4])), Version: int64(whole(t, p[5]))}
	for p = p[6:]; len(p) > 0 && p[0] == "label"; p = p[2:] {
		key, value, _ := strings.Cut(p[1], "=")
		o.Labels = append(o.Labels, api.Label{Key: key, Value: value})
	}
	for len(p) > 0 {
		part := api.Part{Name: p[1]}
		p = p[2:]
		if len(p) > 0 && p[0] == "req" {
			part.Requests, p = unpair(t, p[1:])
		}
		if len(p) > 0 && p[0] == "lim" {
			part.Limits, p = unpair(t, p[1:])
		}
		o.Parts = append(o.Parts, part)
	}
	return o
}

// The words of the promises said over again, with numbers of any size.

// above: whether a path is another or one above it.
func above(top, path string) bool {
	return top == "/" || top == path || strings.HasPrefix(path, top+"/")
}

// lies: whether an object lies in a scope.
func lies(o api.Object, s api.Scope) bool {
	names := slices.ContainsFunc(o.Parts, func(p api.Part) bool { return len(p.Requests)+len(p.Limits) > 0 })
	return map[int]bool{api.ScopeAll: true, api.ScopeBest: !names, api.ScopeNotBest: names, api.ScopeEnds: o.Deadline > 0, api.ScopeNotEnds: o.Deadline <= 0, api.ScopePriority: o.Priority == s.Arg}[s.Kind]
}

// takes tells what an object uses.
func takes(o api.Object) map[string]*big.Int {
	sums := map[string]*big.Int{"count": big.NewInt(1000)}
	add := func(name string, v int64) {
		if sums[name] == nil {
			sums[name] = new(big.Int)
		}
		sums[name].Add(sums[name], big.NewInt(v))
	}
	for _, p := range o.Parts {
		for _, a := range p.Requests {
			add("requests."+a.Name, a.Value)
		}
		for _, a := range p.Limits {
			add("limits."+a.Name, a.Value)
		}
	}
	return sums
}

// sum tells what objects at a path and below it use of a name in a scope.
func sum(l []api.Object, path string, s api.Scope, name string) *big.Int {
	total := new(big.Int)
	for _, o := range l {
		if v := takes(o)[name]; v != nil && above(path, o.Path) && lies(o, s) {
			total.Add(total, v)
		}
	}
	return total
}

// P4: each use is the sum of the objects, there is none that isn't told, and none is above a quota.
func sound(t testing.TB, d api.Dump) {
	t.Helper()
	n := 0
	for _, path := range d.Nodes {
		names := map[string]bool{}
		for _, o := range d.Objects {
			for name := range takes(o) {
				names[name] = true
			}
		}
		for name := range names {
			for kind := range 15 {
				s := api.Scope{Kind: min(kind, api.ScopePriority), Arg: max(0, kind-api.ScopePriority)}
				v := sum(d.Objects, path, s, name)
				if v.Sign() == 0 {
					continue
				}
				n++
				if !v.IsInt64() || !slices.Contains(d.Uses, api.Use{Path: path, Scope: s, Resource: name, Value: v.Int64()}) {
					t.Fatalf("the objects use %v of %s in %s, %v; the dump doesn't tell it", v, name, path, s)
				}
			}
		}
	}
	if n != len(d.Uses) {
		t.Fatalf("%d uses are told, want %d", len(d.Uses), n)
	}
	for _, q := range d.Quotas {
		for _, a := range q.Hard {
			if v := sum(d.Objects, q.Path, q.Scope, a.Name); v.Cmp(big.NewInt(a.Value)) > 0 {
				t.Fatalf("%v of %s are used, the quota %+v has less", v, a.Name, q)
			}
		}
	}
}

// lineOf tells what stands at a path and above it, the nearest first, by name.
func lineOf[T any](path string, l []T, where func(T) (string, string)) []T {
	var line []T
	for _, x := range l {
		if at, _ := where(x); above(at, path) {
			line = append(line, x)
		}
	}
	slices.SortStableFunc(line, func(a, b T) int {
		p, n := where(a)
		q, m := where(b)
		if len(p) != len(q) {
			return len(q) - len(p)
		}
		return strings.Compare(n, m)
	})
	return line
}

func amountOf(l []api.Amount, name string) (int64, bool) {
	for _, a := range l {
		if a.Name == name {
			return a.Value, true
		}
	}
	return 0, false
}

func put(l *[]api.Amount, name string, v int64) {
	*l = append(slices.Clone(*l), api.Amount{Name: name, Value: v})
	slices.SortFunc(*l, func(a, b api.Amount) int { return strings.Compare(a.Name, b.Name) })
}

// firstSet tells the first number of the line's rules for a resource that is set.
func firstSet(rules []api.Rule, number func(api.Rule) int64) int64 {
	for _, r := range rules {
		if number(r) != off {
			return number(r)
		}
	}
	return off
}

// rulesOf tells the resources of a part and the line, rising, each with the line's rules for it.
func rulesOf(p api.Part, line []api.LimitRange) ([]string, map[string][]api.Rule) {
	rules := map[string][]api.Rule{}
	for _, a := range slices.Concat(p.Requests, p.Limits) {
		rules[a.Name] = nil
	}
	for _, l := range line {
		for _, r := range l.Rules {
			rules[r.Resource] = append(rules[r.Resource], r)
		}
	}
	var names []string
	for name := range rules {
		names = append(names, name)
	}
	slices.Sort(names)
	return names, rules
}

// defaulted tells an object with all that the limit ranges of its line lay in.
func defaulted(d api.Dump, o api.Object) api.Object {
	line := lineOf(o.Path, d.Limits, func(l api.LimitRange) (string, string) { return l.Path, l.Name })
	o.Parts = slices.Clone(o.Parts)
	for i := range o.Parts {
		p := &o.Parts[i]
		names, rules := rulesOf(*p, line)
		for _, name := range names {
			if _, there := amountOf(p.Limits, name); !there {
				if v := firstSet(rules[name], func(r api.Rule) int64 { return r.Default }); v != off {
					put(&p.Limits, name, v)
				}
			}
			if _, there := amountOf(p.Requests, name); !there {
				limit, has := amountOf(p.Limits, name)
				if v := firstSet(rules[name], func(r api.Rule) int64 { return r.Request }); v != off {
					put(&p.Requests, name, v)
				} else if has {
					put(&p.Requests, name, limit)
				}
			}
		}
	}
	return o
}

// ranged: whether a defaulted object is within its own limits and the limit ranges of its line.
func ranged(d api.Dump, o api.Object) bool {
	line := lineOf(o.Path, d.Limits, func(l api.LimitRange) (string, string) { return l.Path, l.Name })
	for _, p := range o.Parts {
		names, rules := rulesOf(p, line)
		for _, name := range names {
			request, asks := amountOf(p.Requests, name)
			limit, has := amountOf(p.Limits, name)
			if asks && has && request > limit {
				return false
			}
			for _, r := range rules[name] {
				left := new(big.Int).Mul(big.NewInt(limit), big.NewInt(1000))
				right := new(big.Int).Mul(big.NewInt(r.Ratio), big.NewInt(request))
				if r.Min != off && (!asks || request < r.Min) || r.Max != off && (!has || limit > r.Max) || r.Ratio != off && asks && has && left.Cmp(right) > 0 {
					return false
				}
			}
		}
	}
	return true
}

// namesAll: whether each part of an object names what a quota's amount speaks of.
func namesAll(o api.Object, name string) bool {
	for _, p := range o.Parts {
		_, asks := amountOf(p.Requests, strings.TrimPrefix(name, "requests."))
		_, has := amountOf(p.Limits, strings.TrimPrefix(name, "limits."))
		if strings.HasPrefix(name, "requests.") && !asks || strings.HasPrefix(name, "limits.") && !has {
			return false
		}
	}
	return true
}

// admits tells the defaulted object, and whether it may come: P5's words, for a valid object whose record is not too long.
func admits(d api.Dump, o api.Object) (api.Object, bool) {
	if !slices.Contains(d.Nodes, o.Path) || slices.ContainsFunc(d.Objects, func(x api.Object) bool { return x.Path == o.Path && x.Name == o.Name }) {
		return o, false
	}
	o = defaulted(d, o)
	if !ranged(d, o) {
		return o, false
	}
	with := append(slices.Clone(d.Objects), o)
	for name := range takes(o) {
		if !sum(with, "/", api.Scope{}, name).IsInt64() {
			return o, false
		}
	}
	for _, q := range d.Quotas {
		if !above(q.Path, o.Path) || !lies(o, q.Scope) {
			continue
		}
		for _, a := range q.Hard {
			if !namesAll(o, a.Name) || sum(with, q.Path, q.Scope, a.Name).Cmp(big.NewInt(a.Value)) > 0 {
				return o, false
			}
		}
	}
	return o, true
}
