package admit

import (
	"slices"

	"bursar/api"
	"bursar/limits"
	"bursar/object"
	"bursar/quota"
	"bursar/scope"
)

// trial: an object on its way through the chain.
type trial struct {
	world         *World
	object        api.Object // as the links made it so far
	version, must int64
	old           []api.Object // the one in whose place it comes, if there is one
	detail        api.Detail   // of the link that refuses
}

// link: one judge of the chain, and how to take back what it began (nil: it began nothing).
type link struct {
	judge func(*trial) api.Errno
	undo  func(*trial)
}

// chain tells the links in their order; who: whether the one whose place it takes is as it must be.
func chain(who func(*trial) api.Errno) []link {
	return []link{
		{judge: (*trial).normal},
		{judge: who},
		{judge: (*trial).ranged},
		{judge: (*trial).short},
		{judge: (*trial).summed},
		{judge: (*trial).fitting},
		{judge: (*trial).lay, undo: (*trial).unlay},
		{judge: (*trial).charge, undo: (*trial).discharge},
	}
}

// Create lays an object down. version: of the change that is to come.
func (w *World) Create(o api.Object, version int64) (api.Object, api.Detail, api.Errno) {
	t := &trial{world: w, object: o, version: version}
	return t.run(chain((*trial).vacant), true)
}

// Update lays one in the place of another. must: the version that must be there, 0: any.
func (w *World) Update(o api.Object, version, must int64) (api.Object, api.Detail, api.Errno) {
	t := &trial{world: w, object: o, version: version, must: must}
	return t.run(chain((*trial).there), true)
}

// Try tells what Create or Update would, and does nothing.
func (w *World) Try(o api.Object, update bool, version, must int64) (api.Object, api.Detail, api.Errno) {
	t := &trial{world: w, object: o, version: version}
	if !update {
		return t.run(chain((*trial).vacant), false)
	}
	t.must = must
	return t.run(chain((*trial).there), false)
}

// Delete takes an object away.
func (w *World) Delete(path, name string, must int64) (api.Object, api.Errno) {
	if !stamp(must) {
		return api.Object{}, api.ErrArg
	}
	o, errno := w.current(path, name, must)
	if errno != api.OK {
		return api.Object{}, errno
	}
	w.book.Release(*o) // never refused: it is charged
	w.objects.drop(path, name)
	return *o, api.OK // nobody else holds it any more
}

// run does the links one after the other. Where one refuses, or nothing is to stay, all that was begun is undone.
func (t *trial) run(links []link, stays bool) (api.Object, api.Detail, api.Errno) {
	if !stamp(t.version) || !stamp(t.must) {
		return api.Object{}, api.Detail{}, api.ErrArg
	}
	begun, done := 0, false
	defer func() {
		if done && stays {
			return
		}
		for _, l := range slices.Backward(links[:begun]) {
			if l.undo != nil {
				l.undo(t)
			}
		}
	}()
	for _, l := range links {
		if errno := l.judge(t); errno != api.OK {
			return api.Object{}, t.detail, errno
		}
		begun++
	}
	done = true
	return t.object, api.Detail{}, api.OK
}

func (t *trial) normal() (errno api.Errno) {
	t.object, errno = object.Normal(t.object)
	return errno
}

func (t *trial) vacant() api.Errno { return t.world.vacant(t.object.Path, t.object.Name) }

func (t *trial) there() api.Errno {
	old, errno := t.world.current(t.object.Path, t.object.Name, t.must)
	if errno == api.OK {
		t.old = []api.Object{*old}
	}
	return errno
}

// ranged gives the object its new version only behind the limit ranges, which judge it with the one that it came with.
func (t *trial) ranged() (errno api.Errno) {
	t.object, t.detail, errno = limits.Admit(t.object, t.world.ranges.line(t.line()))
	t.object.Version = t.version
	return errno
}

// short: the version may need more bytes than the one that it came with.
func (t *trial) short() api.Errno { return object.ValidObject(t.object) }

func (t *trial) summed() api.Errno {
	_, errno := scope.Uses(t.object)
	return errno
}

func (t *trial) fitting() (errno api.Errno) {
	t.detail, errno = quota.Fits(t.world.book, t.world.quotas.line(t.line()), t.old, t.object)
	return errno
}

func (t *trial) lay() api.Errno {
	t.world.keep(t.object)
	return api.OK
}

func (t *trial) unlay() {
	t.world.objects.drop(t.object.Path, t.object.Name)
	for _, old := range t.old {
		t.world.keep(old)
	}
}

func (t *trial) charge() api.Errno {
	if len(t.old) > 0 {
		return t.world.book.Change(t.old[0], t.object)
	}
	return t.world.book.Charge(t.object)
}

// discharge is never refused: it brings the sums back to what they were.
func (t *trial) discharge() {
	t.world.book.Release(t.object)
	for _, old := range t.old {
		t.world.book.Charge(old)
	}
}

// line tells the object's namespace and all above it; it is asked only once that is known to be there.
func (t *trial) line() []string {
	line, _ := t.world.nodes.Line(t.object.Path)
	return line
}

// vacant tells whether an object may come to a place.
func (w *World) vacant(path, name string) api.Errno {
	if !w.nodes.Has(path) {
		return api.ErrNoNode
	}
	if _, there := w.objects.get(path, name); there {
		return api.ErrExists
	}
	return api.OK
}

// current tells the object at a place, if it is of the version that it must be.
func (w *World) current(path, name string, must int64) (*api.Object, api.Errno) {
	o, there := w.objects.get(path, name)
	if !there {
		return nil, api.ErrMissing
	}
	if must != 0 && must != o.Version {
		return nil, api.ErrConflict
	}
	return o, api.OK
}

// keep lays a copy of an object down.
func (w *World) keep(o api.Object) {
	o = copiedObject(o)
	w.objects.put(o.Path, &o)
}

func stamp(n int64) bool { return n >= 0 && n <= api.MaxStamp }
