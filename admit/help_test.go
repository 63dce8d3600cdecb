package admit_test

import (
	"cmp"
	"fmt"
	"math/big"
	"reflect"
	"slices"
	"strings"
	"testing"

	"bursar/admit"
	"bursar/api"
	"bursar/label"
	"bursar/limits"
	"bursar/object"
)

// What follows is the chapter's words over again, by other means: a world on paper has plain lists in no order, what is used is reckoned from the objects whenever it is asked for, sums are big numbers. What layers 4, 13 and 16 say of one record is asked of them.

type paper struct {
	nodes   []string // without the root
	quotas  []api.Quota
	ranges  []api.LimitRange
	objects []api.Object
	told    *api.Dump // what dump told last, nil once something changed
}

func names(path string) []string {
	return strings.FieldsFunc(path, func(letter rune) bool { return letter == '/' })
}

func under(path, top string) bool {
	below, above := names(path), names(top)
	return len(below) >= len(above) && slices.Equal(below[:len(above)], above)
}

// inOrder compares two places: their paths' names, then their own.
func inOrder(path, name, otherPath, otherName string) int {
	return cmp.Or(slices.Compare(names(path), names(otherPath)), cmp.Compare(name, otherName))
}

func byQuota(a, b api.Quota) int      { return inOrder(a.Path, a.Name, b.Path, b.Name) }
func byRange(a, b api.LimitRange) int { return inOrder(a.Path, a.Name, b.Path, b.Name) }
func byObject(a, b api.Object) int    { return inOrder(a.Path, a.Name, b.Path, b.Name) }

// only: those that hold, as a list of its own.
func only[T any](l []T, holds func(T) bool) []T {
	var all []T
	for _, one := range l {
		if holds(one) {
			all = append(all, one)
		}
	}
	return all
}

func (p *paper) has(path string) bool { return path == "/" || slices.Contains(p.nodes, path) }

func (p *paper) addNode(path string) api.Errno {
	if label.Path(path) != api.OK {
		return api.ErrPath
	}
	if p.has(path) {
		return api.ErrNode
	}
	above := "/" + strings.Join(names(path)[:len(names(path))-1], "/")
	if !p.has(above) {
		return api.ErrNoNode
	}
	p.nodes, p.told = append(p.nodes, path), nil
	return api.OK
}

func (p *paper) dropNode(path string) api.Errno {
	switch {
	case label.Path(path) != api.OK:
		return api.ErrPath
	case path == "/":
		return api.ErrRoot
	case !p.has(path):
		return api.ErrNoNode
	case slices.ContainsFunc(p.nodes, func(other string) bool { return other != path && under(other, path) }):
		return api.ErrChildren
	case slices.ContainsFunc(p.objects, func(o api.Object) bool { return o.Path == path }):
		return api.ErrFull
	}
	p.nodes = only(p.nodes, func(other string) bool { return other != path })
	p.quotas = only(p.quotas, func(q api.Quota) bool { return q.Path != path })
	p.ranges = only(p.ranges, func(l api.LimitRange) bool { return l.Path != path })
	p.told = nil
	return api.OK
}

func liesIn(o api.Object, s api.Scope) bool {
	best := !slices.ContainsFunc(o.Parts, func(p api.Part) bool { return len(p.Requests)+len(p.Limits) > 0 })
	switch s.Kind {
	case api.ScopeAll:
		return true
	case api.ScopeBest:
		return best
	case api.ScopeNotBest:
		return !best
	case api.ScopeEnds:
		return o.Deadline > 0
	case api.ScopeNotEnds:
		return o.Deadline == 0
	}
	return o.Priority == s.Arg
}

// uses: what an object uses, by hard names.
func uses(o api.Object) map[string]*big.Int {
	sums := map[string]*big.Int{"count": big.NewInt(1000)}
	add := func(name string, value int64) {
		if sums[name] == nil {
			sums[name] = new(big.Int)
		}
		sums[name].Add(sums[name], big.NewInt(value))
	}
	for _, p := range o.Parts {
		for _, a := range p.Requests {
			add("requests."+a.Name, a.Value)
		}
		for _, a := range p.Limits {
			add("limits."+a.Name, a.Value)
		}
	}
	return sums
}

// used: the sum over some objects at a path and below it, in a scope, by a hard name.
func used(objects []api.Object, path string, s api.Scope, hard string) *big.Int {
	sum := new(big.Int)
	for _, o := range objects {
		if value := uses(o)[hard]; value != nil && liesIn(o, s) && under(o.Path, path) {
			sum.Add(sum, value)
		}
	}
	return sum
}

func allScopes() []api.Scope {
	l := []api.Scope{{Kind: 0}, {Kind: 1}, {Kind: 2}, {Kind: 3}, {Kind: 4}}
	for arg := range 10 {
		l = append(l, api.Scope{Kind: api.ScopePriority, Arg: arg})
	}
	return l
}

// rows: all sums that are not 0, in order.
func rows(objects []api.Object) []api.Use {
	sums := map[api.Use]*big.Int{}
	for _, o := range objects {
		for name, value := range uses(o) {
			for _, path := range lineOf(o.Path) {
				for _, s := range only(allScopes(), func(s api.Scope) bool { return liesIn(o, s) }) {
					at := api.Use{Path: path, Scope: s, Resource: name}
					sums[at] = new(big.Int).Add(value, cmp.Or(sums[at], new(big.Int)))
				}
			}
		}
	}
	var all []api.Use
	for at, sum := range sums {
		if at.Value = sum.Int64(); at.Value != 0 {
			all = append(all, at)
		}
	}
	slices.SortFunc(all, func(a, b api.Use) int {
		return cmp.Or(slices.Compare(names(a.Path), names(b.Path)), cmp.Compare(a.Scope.Kind, b.Scope.Kind), cmp.Compare(a.Scope.Arg, b.Scope.Arg), cmp.Compare(a.Resource, b.Resource))
	})
	return all
}

// below: the first amount of a quota that is less than what is used.
func (p *paper) below(q api.Quota) (api.Detail, api.Errno) {
	for _, hard := range q.Hard {
		if used(p.objects, q.Path, q.Scope, hard.Name).Cmp(big.NewInt(hard.Value)) > 0 {
			return tells(q.Path, q.Name, "", hard.Name), api.ErrBelow
		}
	}
	return api.Detail{}, api.OK
}

func (p *paper) setQuota(q api.Quota) (api.Detail, api.Errno) {
	if object.ValidQuota(q) != api.OK {
		return api.Detail{}, api.ErrObject
	}
	if !p.has(q.Path) {
		return api.Detail{}, api.ErrNoNode
	}
	others := only(p.quotas, func(other api.Quota) bool { return byQuota(other, q) != 0 })
	here := only(others, func(other api.Quota) bool { return other.Path == q.Path })
	if len(others) == len(p.quotas) && len(here) == 16 {
		return api.Detail{}, api.ErrMany
	}
	if d, errno := p.below(q); errno != api.OK {
		return d, errno
	}
	p.quotas, p.told = append(others, q), nil
	return api.Detail{}, api.OK
}

func (p *paper) setLimit(l api.LimitRange) api.Errno {
	if object.ValidLimit(l) != api.OK {
		return api.ErrObject
	}
	if !p.has(l.Path) {
		return api.ErrNoNode
	}
	others := only(p.ranges, func(other api.LimitRange) bool { return byRange(other, l) != 0 })
	here := only(others, func(other api.LimitRange) bool { return other.Path == l.Path })
	if len(others) == len(p.ranges) && len(here) == 16 {
		return api.ErrMany
	}
	p.ranges, p.told = append(others, l), nil
	return api.OK
}

func (p *paper) dropQuota(path, name string) api.Errno {
	left := only(p.quotas, func(q api.Quota) bool { return q.Path != path || q.Name != name })
	if len(left) == len(p.quotas) {
		return api.ErrMissing
	}
	p.quotas, p.told = left, nil
	return api.OK
}

func (p *paper) dropLimit(path, name string) api.Errno {
	left := only(p.ranges, func(l api.LimitRange) bool { return l.Path != path || l.Name != name })
	if len(left) == len(p.ranges) {
		return api.ErrMissing
	}
	p.ranges, p.told = left, nil
	return api.OK
}

// lineOf: a path, the one above it, and so on.
func lineOf(path string) []string {
	var l []string
	for n := len(names(path)); n >= 0; n-- {
		l = append(l, "/"+strings.Join(names(path)[:n], "/"))
	}
	return l
}

func (p *paper) rangesOf(path string) [][]api.LimitRange {
	var l [][]api.LimitRange
	for _, top := range lineOf(path) {
		here := only(p.ranges, func(l api.LimitRange) bool { return l.Path == top })
		slices.SortFunc(here, byRange)
		l = append(l, here)
	}
	return l
}

func (p *paper) quotasOf(path string) []api.Quota {
	var l []api.Quota
	for _, top := range lineOf(path) {
		here := only(p.quotas, func(q api.Quota) bool { return q.Path == top })
		slices.SortFunc(here, byQuota)
		l = append(l, here...)
	}
	return l
}

// lacking: the first part that doesn't name what a hard name is of.
func lacking(o api.Object, hard string) string {
	head, resource, _ := strings.Cut(hard, ".")
	for _, p := range o.Parts {
		list := p.Limits
		if head == "requests" {
			list = p.Requests
		}
		if hard != "count" && !slices.ContainsFunc(list, func(a api.Amount) bool { return a.Name == resource }) {
			return p.Name
		}
	}
	return ""
}

// others: all objects but the one with a path and name.
func (p *paper) others(path, name string) []api.Object {
	return only(p.objects, func(o api.Object) bool { return o.Path != path || o.Name != name })
}

// find: the objects with a path and name.
func (p *paper) find(path, name string) []api.Object {
	return only(p.objects, func(o api.Object) bool { return o.Path == path && o.Name == name })
}

// refusedByQuota is the chain's sixth link, of an object among others.
func (p *paper) refusedByQuota(others []api.Object, o api.Object) (api.Detail, api.Errno) {
	for _, q := range p.quotasOf(o.Path) {
		if !liesIn(o, q.Scope) {
			continue
		}
		for _, hard := range q.Hard {
			if part := lacking(o, hard.Name); part != "" {
				return tells(q.Path, q.Name, part, hard.Name), api.ErrUnset
			}
			if used(append(slices.Clone(others), o), q.Path, q.Scope, hard.Name).Cmp(big.NewInt(hard.Value)) > 0 {
				return tells(q.Path, q.Name, "", hard.Name), api.ErrQuota
			}
		}
	}
	return api.Detail{}, api.OK
}

func stamp(n int64) bool { return 0 <= n && n <= 1<<60 }

// over: whether some sum of these objects, or of one of them, is above every amount. At the root and in the scope of all lies whatever lies anywhere.
func over(objects ...api.Object) bool {
	for _, o := range objects {
		for name := range uses(o) {
			if !used(objects, "/", api.Scope{}, name).IsInt64() {
				return true
			}
		}
	}
	return false
}

// judge is the chain: what would be stored.
func (p *paper) judge(o api.Object, update bool, version, must int64) (api.Object, api.Detail, api.Errno) {
	no := func(errno api.Errno) (api.Object, api.Detail, api.Errno) { return api.Object{}, api.Detail{}, errno }
	if !stamp(version) || update && !stamp(must) {
		return no(api.ErrArg)
	}
	o, errno := object.Normal(o)
	if errno != api.OK {
		return no(errno)
	}
	there := p.find(o.Path, o.Name)
	switch {
	case update && len(there) == 0:
		return no(api.ErrMissing)
	case update && must != 0 && there[0].Version != must:
		return no(api.ErrConflict)
	case !update && !p.has(o.Path):
		return no(api.ErrNoNode)
	case !update && len(there) > 0:
		return no(api.ErrExists)
	}
	o, d, errno := limits.Admit(o, p.rangesOf(o.Path))
	if errno != api.OK {
		return api.Object{}, d, errno
	}
	o.Version = version
	if object.ValidObject(o) != api.OK {
		return no(api.ErrLong)
	}
	if over(o) {
		return no(api.ErrOver)
	}
	others := p.others(o.Path, o.Name)
	if d, errno := p.refusedByQuota(others, o); errno != api.OK {
		return api.Object{}, d, errno
	}
	if over(append(others, o)...) {
		return no(api.ErrOver)
	}
	return o, api.Detail{}, api.OK
}

// lay is Create or Update.
func (p *paper) lay(o api.Object, update bool, version, must int64) (api.Object, api.Detail, api.Errno) {
	o, d, errno := p.judge(o, update, version, must)
	if errno == api.OK {
		p.objects, p.told = append(p.others(o.Path, o.Name), copied(o)), nil
	}
	return o, d, errno
}

func (p *paper) remove(path, name string, must int64) (api.Object, api.Errno) {
	there := p.find(path, name)
	switch {
	case !stamp(must):
		return api.Object{}, api.ErrArg
	case len(there) == 0:
		return api.Object{}, api.ErrMissing
	case must != 0 && there[0].Version != must:
		return api.Object{}, api.ErrConflict
	}
	p.objects, p.told = p.others(path, name), nil
	return there[0], api.OK
}

func (p *paper) get(path, name string) (api.Object, api.Errno) {
	if there := p.find(path, name); len(there) > 0 {
		return there[0], api.OK
	}
	return api.Object{}, api.ErrMissing
}

func (p *paper) list(path string, deep bool, terms []api.Term, from string, most int) ([]api.Object, bool, api.Errno) {
	if most < 1 || most > 100 {
		return nil, false, api.ErrArg
	}
	if label.Path(path) != api.OK {
		return nil, false, api.ErrPath
	}
	if !p.has(path) {
		return nil, false, api.ErrNoNode
	}
	if _, errno := label.Print(terms); errno != api.OK {
		return nil, false, api.ErrTerm
	}
	at, name := path, from
	if deep && from != "" {
		words := strings.Split(from, " ")
		if len(words) != 2 || label.Path(words[0]) != api.OK {
			return nil, false, api.ErrArg
		}
		at, name = words[0], words[1]
	}
	if from != "" && !label.Name(name) {
		return nil, false, api.ErrArg
	}
	all := only(p.objects, func(o api.Object) bool {
		holds, _ := label.Match(terms, o.Labels)
		here := o.Path == path || deep && under(o.Path, path)
		return here && holds && (from == "" || inOrder(o.Path, o.Name, at, name) > 0)
	})
	slices.SortFunc(all, byObject)
	return all[:min(most, len(all))], len(all) > most, api.OK
}

func (p *paper) status(path, name string) ([]api.Line, api.Errno) {
	for _, q := range p.quotas {
		if q.Path != path || q.Name != name {
			continue
		}
		var all []api.Line
		for _, hard := range q.Hard {
			all = append(all, api.Line{Resource: hard.Name, Hard: hard.Value, Used: used(p.objects, path, q.Scope, hard.Name).Int64()})
		}
		return all, api.OK
	}
	return nil, api.ErrMissing
}

func (p *paper) dump() api.Dump {
	if p.told != nil {
		return *p.told
	}
	d := api.Dump{Nodes: append([]string{"/"}, p.nodes...), Quotas: slices.Clone(p.quotas), Limits: slices.Clone(p.ranges), Objects: slices.Clone(p.objects)}
	slices.SortFunc(d.Nodes, func(a, b string) int { return slices.Compare(names(a), names(b)) })
	slices.SortFunc(d.Quotas, byQuota)
	slices.SortFunc(d.Limits, byRange)
	slices.SortFunc(d.Objects, byObject)
	d.Uses = rows(d.Objects)
	p.told = &d
	return d
}

// paperOf is Of.
func paperOf(d api.Dump) (*paper, api.Errno) {
	p := &paper{}
	if errno := p.takeNodes(d.Nodes); errno != api.OK {
		return nil, errno
	}
	for i, q := range d.Quotas {
		before := slices.ContainsFunc(d.Quotas[:i], func(other api.Quota) bool { return byQuota(other, q) == 0 })
		if _, errno := p.setQuota(q); errno == api.ErrObject || errno == api.ErrNoNode {
			return nil, errno
		} else if before {
			return nil, api.ErrExists
		} else if errno != api.OK {
			return nil, errno
		}
	}
	for i, l := range d.Limits {
		before := slices.ContainsFunc(d.Limits[:i], func(other api.LimitRange) bool { return byRange(other, l) == 0 })
		if errno := p.setLimit(l); errno == api.ErrObject || errno == api.ErrNoNode {
			return nil, errno
		} else if before {
			return nil, api.ErrExists
		} else if errno != api.OK {
			return nil, errno
		}
	}
	for _, o := range d.Objects {
		if errno := object.ValidObject(o); errno != api.OK {
			return nil, errno
		}
		if !p.has(o.Path) {
			return nil, api.ErrNoNode
		}
		if len(p.find(o.Path, o.Name)) > 0 {
			return nil, api.ErrExists
		}
		if p.objects = append(p.objects, o); over(p.objects...) {
			return nil, api.ErrOver
		}
	}
	for _, q := range p.quotas {
		if _, errno := p.below(q); errno != api.OK {
			return nil, api.ErrBelow
		}
	}
	return p, api.OK
}

func (p *paper) takeNodes(paths []string) api.Errno {
	for _, path := range paths {
		if label.Path(path) != api.OK {
			return api.ErrPath
		}
	}
	seen := map[string]int{}
	for _, path := range paths {
		if seen[path]++; seen[path] > 1 {
			return api.ErrNode
		}
	}
	for _, path := range paths {
		for _, above := range lineOf(path) {
			if above != "/" && seen[above] == 0 {
				return api.ErrNoNode
			}
		}
	}
	p.nodes = only(paths, func(path string) bool { return path != "/" })
	return api.OK
}

// copied shares no memory with o, and none of its lists is nil.
func copied(o api.Object) api.Object {
	o.Labels = append([]api.Label{}, o.Labels...)
	o.Parts = append([]api.Part{}, o.Parts...)
	for i, p := range o.Parts {
		o.Parts[i].Requests = append([]api.Amount{}, p.Requests...)
		o.Parts[i].Limits = append([]api.Amount{}, p.Limits...)
	}
	return o
}

// same: empty lists and nil are the same.
func same(a, b api.Object) bool { return reflect.DeepEqual(copied(a), copied(b)) }

func sameAll(a, b []api.Object) bool { return slices.EqualFunc(a, b, same) }

// sameDump holds all of two dumps against each other.
func sameDump(a, b api.Dump) bool {
	return a.Version == b.Version && len(a.Bindings) == 0 && len(b.Bindings) == 0 &&
		slices.Equal(a.Nodes, b.Nodes) && slices.Equal(a.Uses, b.Uses) && sameAll(a.Objects, b.Objects) &&
		slices.EqualFunc(a.Quotas, b.Quotas, func(a, b api.Quota) bool {
			return byQuota(a, b) == 0 && a.Scope == b.Scope && slices.Equal(a.Hard, b.Hard)
		}) &&
		slices.EqualFunc(a.Limits, b.Limits, func(a, b api.LimitRange) bool {
			return byRange(a, b) == 0 && slices.Equal(a.Rules, b.Rules)
		})
}

func tells(path, name, part, resource string) api.Detail {
	return api.Detail{Path: path, Name: name, Part: part, Resource: resource}
}

// both: a world, and the same one on paper. What each call tells is held against what the paper says, and so is the Dump behind it.
type both struct {
	t     *testing.T
	world *admit.World
	paper *paper
	seen  map[api.Errno]int
	loose bool // the Dump isn't looked at
}

func newBoth(t *testing.T) *both {
	return &both{t: t, world: admit.New(), paper: &paper{}, seen: map[api.Errno]int{}}
}

func (b *both) hold(call string, ok bool, errno, want api.Errno) api.Errno {
	b.t.Helper()
	b.seen[want]++
	if !ok || errno != want {
		b.t.Fatalf("%s: %d, want %d (what is told is right: %v)\nin %+v", call, errno, want, ok, b.paper)
	}
	if b.loose {
		return errno
	}
	if d := b.world.Dump(); !sameDump(d, b.paper.dump()) {
		b.t.Fatalf("behind %s: %d: Dump is %+v, want %+v", call, errno, d, b.paper.dump())
	}
	return errno
}

func (b *both) addNode(path string) api.Errno {
	b.t.Helper()
	return b.hold(fmt.Sprintf("AddNode(%q)", path), true, b.world.AddNode(path), b.paper.addNode(path))
}

func (b *both) dropNode(path string) api.Errno {
	b.t.Helper()
	return b.hold(fmt.Sprintf("DropNode(%q)", path), true, b.world.DropNode(path), b.paper.dropNode(path))
}

func (b *both) setQuota(q api.Quota) (api.Detail, api.Errno) {
	b.t.Helper()
	d, errno := b.world.SetQuota(q)
	want, wantErrno := b.paper.setQuota(q)
	return d, b.hold(fmt.Sprintf("SetQuota(%+v) = %+v", q, d), d == want, errno, wantErrno)
}

func (b *both) setLimit(l api.LimitRange) api.Errno {
	b.t.Helper()
	return b.hold(fmt.Sprintf("SetLimit(%+v)", l), true, b.world.SetLimit(l), b.paper.setLimit(l))
}

func (b *both) dropQuota(path, name string) api.Errno {
	b.t.Helper()
	return b.hold(fmt.Sprintf("DropQuota(%q, %q)", path, name), true, b.world.DropQuota(path, name), b.paper.dropQuota(path, name))
}

func (b *both) dropLimit(path, name string) api.Errno {
	b.t.Helper()
	return b.hold(fmt.Sprintf("DropLimit(%q, %q)", path, name), true, b.world.DropLimit(path, name), b.paper.dropLimit(path, name))
}

// try holds Try against the paper; Create and Update must then tell the same.
func (b *both) try(o api.Object, update bool, version, must int64) (api.Object, api.Detail, api.Errno) {
	b.t.Helper()
	told, d, errno := b.world.Try(o, update, version, must)
	want, wantDetail, wantErrno := b.paper.judge(o, update, version, must)
	call := fmt.Sprintf("Try(%+v, %v, %d, %d) = %+v, %+v, want %+v, %+v", o, update, version, must, told, d, want, wantDetail)
	return told, d, b.hold(call, same(told, want) && d == wantDetail, errno, wantErrno)
}

func (b *both) create(o api.Object, version int64) (api.Object, api.Detail, api.Errno) {
	b.t.Helper()
	b.try(o, false, version, -7) // must isn't looked at
	told, d, errno := b.world.Create(o, version)
	want, wantDetail, wantErrno := b.paper.lay(o, false, version, 0)
	call := fmt.Sprintf("Create(%+v, %d) = %+v, %+v, want %+v, %+v", o, version, told, d, want, wantDetail)
	return told, d, b.hold(call, same(told, want) && d == wantDetail, errno, wantErrno)
}

func (b *both) update(o api.Object, version, must int64) (api.Object, api.Detail, api.Errno) {
	b.t.Helper()
	b.try(o, true, version, must)
	told, d, errno := b.world.Update(o, version, must)
	want, wantDetail, wantErrno := b.paper.lay(o, true, version, must)
	call := fmt.Sprintf("Update(%+v, %d, %d) = %+v, %+v, want %+v, %+v", o, version, must, told, d, want, wantDetail)
	return told, d, b.hold(call, same(told, want) && d == wantDetail, errno, wantErrno)
}

func (b *both) remove(path, name string, must int64) (api.Object, api.Errno) {
	b.t.Helper()
	told, errno := b.world.Delete(path, name, must)
	want, wantErrno := b.paper.remove(path, name, must)
	return told, b.hold(fmt.Sprintf("Delete(%q, %q, %d) = %+v", path, name, must, told), same(told, want), errno, wantErrno)
}

func (b *both) get(path, name string) (api.Object, api.Errno) {
	b.t.Helper()
	told, errno := b.world.Get(path, name)
	want, wantErrno := b.paper.get(path, name)
	return told, b.hold(fmt.Sprintf("Get(%q, %q) = %+v", path, name, told), same(told, want), errno, wantErrno)
}

func (b *both) list(path string, deep bool, terms []api.Term, from string, most int) ([]api.Object, bool, api.Errno) {
	b.t.Helper()
	told, more, errno := b.world.List(path, deep, terms, from, most)
	want, wantMore, wantErrno := b.paper.list(path, deep, terms, from, most)
	call := fmt.Sprintf("List(%q, %v, %+v, %q, %d) = %+v, %v, want %+v, %v", path, deep, terms, from, most, told, more, want, wantMore)
	return told, more, b.hold(call, sameAll(told, want) && more == wantMore, errno, wantErrno)
}

func (b *both) status(path, name string) ([]api.Line, api.Errno) {
	b.t.Helper()
	told, errno := b.world.Status(path, name)
	want, wantErrno := b.paper.status(path, name)
	return told, b.hold(fmt.Sprintf("Status(%q, %q) = %+v, want %+v", path, name, told, want), slices.Equal(told, want), errno, wantErrno)
}
