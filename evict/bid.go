package evict

import (
	"slices"

	"bursar/admit"
	"bursar/api"
	"bursar/label"
	"bursar/ledger"
	"bursar/quota"
	"bursar/scope"
)

// bid: an object that asks for room. A ledger of its own stands for the world without some objects: to take one away and to give it back is cheap there, while a world would judge anew what comes back.
type bid struct {
	object api.Object    // what it becomes
	uses   []api.Amount  // of it
	line   [][]api.Quota // those of its namespace, then of the one above, up to the root
	book   *ledger.Ledger
}

// gap: a resource of a quota of which less is left than is asked for.
type gap struct {
	quota    api.Quota
	resource string
}

// bidOf expects a world in which o was refused with ErrQuota: so nothing here is refused.
func bidOf(d api.Dump, o api.Object) (bid, api.Errno) {
	full, errno := become(d, o)
	if errno != api.OK {
		return bid{}, errno
	}
	uses, errno := scope.Uses(full)
	if errno != api.OK {
		return bid{}, errno
	}
	line, errno := quotasOf(d, full.Path)
	if errno != api.OK {
		return bid{}, errno
	}
	book, errno := ledger.Of(d.Objects)
	if errno != api.OK {
		return bid{}, errno
	}
	return bid{full, uses, line, book}, api.OK
}

// become tells the object that o would lie there as. Where nothing stands but the limit ranges, nothing else refuses it.
func become(d api.Dump, o api.Object) (api.Object, api.Errno) {
	bare, errno := admit.Of(api.Dump{Nodes: d.Nodes, Limits: d.Limits})
	if errno != api.OK {
		return api.Object{}, errno
	}
	full, _, errno := bare.Try(o, false, 0, 0)
	return full, errno
}

// quotasOf tells the quotas of a path's line; at one path a dump has them by name.
func quotasOf(d api.Dump, path string) ([][]api.Quota, api.Errno) {
	paths, errno := label.Line(path)
	if errno != api.OK {
		return nil, errno
	}
	var line [][]api.Quota
	for _, at := range paths {
		var there []api.Quota
		for _, q := range d.Quotas {
			if q.Path == at {
				there = append(there, q)
			}
		}
		line = append(line, there)
	}
	return line, api.OK
}

// candidates tells those that may go and hold some of what is lacking, in the order.
func (b bid) candidates(objects []api.Object) []api.Object {
	gaps := b.gaps()
	var list []api.Object
	for _, o := range objects {
		if o.Priority < b.object.Priority && holdsSome(gaps, o) {
			list = append(list, o)
		}
	}
	slices.SortFunc(list, compare)
	return list
}

func (b bid) gaps() []gap {
	var gaps []gap
	for _, q := range slices.Concat(b.line...) {
		if !scope.In(b.object, q.Scope) {
			continue
		}
		for _, one := range quota.Lines(b.book, q) {
			// What is used is held against what the object leaves, as the sum of both may be above every number.
			if one.Used > one.Hard-valueOf(b.uses, one.Resource) {
				gaps = append(gaps, gap{q, one.Resource})
			}
		}
	}
	return gaps
}

// holdsSome tells whether an object has a share in one of the gaps.
func holdsSome(gaps []gap, o api.Object) bool {
	uses, _ := scope.Uses(o) // never refused: it is charged
	return slices.ContainsFunc(gaps, func(g gap) bool {
		return scope.In(o, g.quota.Scope) && label.Under(o.Path, g.quota.Path) && valueOf(uses, g.resource) > 0
	})
}

// valueOf tells the amount of a name, 0 if there is none.
func valueOf(l []api.Amount, name string) int64 {
	for _, a := range l {
		if a.Name == name {
			return a.Value
		}
	}
	return 0
}

// take takes candidates away, one by one, till the object is taken; it tells them, or what refuses the object without all of them.
func (b bid) take(candidates []api.Object) ([]api.Object, api.Errno) {
	errno := api.ErrQuota // as long as all are there
	for i, c := range candidates {
		b.book.Release(c)
		if errno = b.judged(); errno == api.OK {
			return candidates[:i+1], api.OK
		}
	}
	return nil, errno
}

// giveBack gives back those that may stay, from the last one on; it tells the others, in their order.
func (b bid) giveBack(taken []api.Object) []api.Object {
	var plan []api.Object
	for _, o := range slices.Backward(taken) {
		b.book.Charge(o) // never refused: no sum comes above what it was
		if b.judged() != api.OK {
			b.book.Release(o)
			plan = append(plan, o)
		}
	}
	slices.Reverse(plan)
	return plan
}

// judged does what is left of admit's chain: the links ahead of these don't hang on what is used.
func (b bid) judged() api.Errno {
	if _, errno := quota.Fits(b.book, b.line, nil, b.object); errno != api.OK {
		return errno
	}
	if errno := b.book.Charge(b.object); errno != api.OK {
		return errno
	}
	return b.book.Release(b.object)
}
