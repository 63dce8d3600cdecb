package server_test

import (
	"cmp"
	"slices"
	"strings"
	"testing"

	"bursar/admit"
	"bursar/api"
	"bursar/ask"
	"bursar/evict"
	"bursar/label"
	"bursar/object"
	"bursar/store"
	"bursar/watch"
)

// What follows is the chapter's words over again, by other means: a server on paper has no device; its state is a dump, of which a world is made anew for each request, and whatever is asked is done there at once; bindings are a plain list. What layers 19, 20 and 22 say is asked of them.

type paper struct {
	t     testing.TB
	state api.Dump
	hub   *watch.Hub
	names map[int64]things // of each version that there was
	most  int              // the greatest weight that a state had
	told  map[int64]string // the text of each version's dump, once it was asked for
	dumps map[int64]api.Dump
}

// things: by kind the texts of what is there.
type things [5][]string

func newPaper(t testing.TB, d api.Dump) *paper {
	p := &paper{t: t, hub: watch.New(d.Version), names: map[int64]things{}, told: map[int64]string{}, dumps: map[int64]api.Dump{}}
	p.become(d)
	return p
}

// begun: the paper of a formatted device.
func begun(t testing.TB) *paper { return newPaper(t, api.Dump{Nodes: []string{"/"}}) }

// opened: another server is opened over the state of a version; it knows no events.
func (p *paper) opened(version int64) {
	p.hub = watch.New(version)
	p.state = p.dumps[version]
}

func (p *paper) become(d api.Dump) {
	p.t.Helper()
	p.state = d
	p.dumps[d.Version] = d
	delete(p.told, d.Version)
	weight := 0
	var now things
	for _, entry := range entriesOf(p.t, d) {
		weight += len(entry.Key) + len(entry.Value) + 32
		kind, path, name, _ := object.Unkey(entry.Key)
		now[kind] = append(now[kind], path+" "+name)
	}
	p.names[d.Version] = now
	p.most = max(p.most, weight)
}

// dump tells the text of a version's dump.
func (p *paper) dump(version int64) string {
	if p.told[version] == "" {
		p.told[version] = text(p.dumps[version])
	}
	return p.told[version]
}

func (p *paper) world() *admit.World {
	p.t.Helper()
	w, errno := admit.Of(p.state)
	if errno != api.OK {
		p.t.Fatalf("the paper's world: %d", errno)
	}
	return w
}

func (p *paper) may(subject string, verb int, path string) bool {
	if !label.Name(subject) {
		return false
	}
	return subject == "root" || slices.ContainsFunc(p.state.Bindings, func(b api.Binding) bool {
		return b.Subject == subject && b.Verb >= verb && label.Under(path, b.Path)
	})
}

// draft: what a request makes of the state, while it is still on its way.
type draft struct {
	p        *paper
	world    *admit.World
	bindings []api.Binding
	reply    api.Reply
	events   []api.Event
}

func (x *draft) event(kind int, gone bool, path, name string) {
	x.events = append(x.events, api.Event{Version: x.p.state.Version + 1, Kind: kind, Gone: gone, Path: path, Name: name})
}

// comes and goes note an event, if all went well.
func (x *draft) comes(errno api.Errno, kind int, path, name string) {
	x.reply.Code = errno
	x.event(kind, false, path, name)
}

func (x *draft) goes(errno api.Errno, kind int, path, name string) {
	x.reply.Code = errno
	x.event(kind, true, path, name)
}

// find asks a request of the paper: what is told, and what comes of it.
func (p *paper) find(r api.Request) *draft {
	p.t.Helper()
	x := &draft{p: p, reply: api.Reply{Version: p.state.Version}}
	if r.Op < 1 || r.Op > 19 {
		x.reply.Code = api.ErrOp
		return x
	}
	verb, path, _ := ask.Verb(r)
	if !p.may(r.Subject, verb, path) {
		x.reply.Code, x.reply.Detail = api.ErrDenied, api.Detail{Path: path}
		return x
	}
	x.world = p.world()
	x.bindings = slices.Clone(p.state.Bindings)
	switch r.Op {
	case api.OpGet, api.OpList, api.OpStatus, api.OpWatch:
		x.look(r)
	case api.OpCreate, api.OpUpdate, api.OpDelete, api.OpEvict:
		x.lay(r)
	case api.OpBind, api.OpUnbind:
		x.bind(r)
	default:
		x.govern(r)
	}
	if x.reply.Code != api.OK {
		x.reply = api.Reply{Code: x.reply.Code, Version: x.reply.Version, Detail: x.reply.Detail}
	}
	return x
}

func (x *draft) look(r api.Request) {
	switch r.Op {
	case api.OpGet:
		if r.Name == "" {
			x.children(r.Path)
			return
		}
		o, errno := x.world.Get(r.Path, r.Name)
		x.reply.Objects, x.reply.Code = []api.Object{o}, errno
	case api.OpList:
		x.reply.Objects, x.reply.More, x.reply.Code = x.world.List(r.Path, r.Deep, r.Terms, r.From, r.Most)
	case api.OpStatus:
		x.reply.Lines, x.reply.Code = x.world.Status(r.Path, r.Name)
	case api.OpWatch:
		events, version, errno := x.p.hub.Since(r.Version, r.Path, r.Most)
		x.reply.Events, x.reply.Code = events, errno
		if errno == api.OK {
			x.reply.Version = version
		}
	}
}

func (x *draft) children(path string) {
	if label.Path(path) != api.OK {
		x.reply.Code = api.ErrPath
		return
	}
	if !slices.Contains(x.p.state.Nodes, path) {
		x.reply.Code = api.ErrNoNode
		return
	}
	for _, node := range x.p.state.Nodes {
		rest, below := strings.CutPrefix(node, strings.TrimSuffix(path, "/")+"/")
		if below && rest != "" && !strings.Contains(rest, "/") {
			x.reply.Names = append(x.reply.Names, node)
		}
	}
	slices.Sort(x.reply.Names)
	if len(x.reply.Names) > 4096 {
		x.reply.Names, x.reply.More = x.reply.Names[:4096], true
	}
}

func (x *draft) lay(r api.Request) {
	version := x.p.state.Version + 1
	var o api.Object
	switch r.Op {
	case api.OpCreate:
		o, x.reply.Detail, x.reply.Code = x.world.Create(r.Object, version)
	case api.OpUpdate:
		o, x.reply.Detail, x.reply.Code = x.world.Update(r.Object, version, r.Version)
	case api.OpDelete:
		o, x.reply.Code = x.world.Delete(r.Path, r.Name, r.Version)
	case api.OpEvict:
		var plan []api.Object
		plan, x.reply.Code = evict.Plan(x.world, r.Object)
		if x.reply.Code != api.OK {
			return
		}
		for _, gone := range plan {
			x.world.Delete(gone.Path, gone.Name, gone.Version)
			x.event(api.KindObject, true, gone.Path, gone.Name)
		}
		x.reply.Objects = plan
		o, _, x.reply.Code = x.world.Create(r.Object, version)
	}
	x.reply.Objects = append(x.reply.Objects, o)
	x.event(api.KindObject, r.Op == api.OpDelete, o.Path, o.Name)
}

func (x *draft) bind(r api.Request) {
	path, name := r.Path, r.Name
	if r.Op == api.OpBind {
		path, name = r.Binding.Path, r.Binding.Name
	}
	others := slices.DeleteFunc(slices.Clone(x.bindings), func(b api.Binding) bool { return b.Path == path && b.Name == name })
	here := slices.DeleteFunc(slices.Clone(others), func(b api.Binding) bool { return b.Path != path })
	switch {
	case r.Op == api.OpUnbind && label.Path(path) != api.OK:
		x.reply.Code = api.ErrPath
	case r.Op == api.OpUnbind && len(others) == len(x.bindings):
		x.reply.Code = api.ErrMissing
	case r.Op == api.OpUnbind:
		x.bindings = others
		x.goes(api.OK, api.KindBinding, path, name)
	case object.ValidBinding(r.Binding) != api.OK:
		x.reply.Code = api.ErrObject
	case !slices.Contains(x.p.state.Nodes, path):
		x.reply.Code = api.ErrNoNode
	case len(here) == 16:
		x.reply.Code = api.ErrMany
	default:
		x.bindings = append(others, r.Binding)
		x.comes(api.OK, api.KindBinding, path, name)
	}
}

func (x *draft) govern(r api.Request) {
	switch r.Op {
	case api.OpNodeAdd:
		x.comes(x.world.AddNode(r.Path), api.KindNode, r.Path, "")
	case api.OpQuotaSet:
		var errno api.Errno
		x.reply.Detail, errno = x.world.SetQuota(r.Quota)
		x.comes(errno, api.KindQuota, r.Quota.Path, r.Quota.Name)
	case api.OpQuotaDrop:
		x.goes(x.world.DropQuota(r.Path, r.Name), api.KindQuota, r.Path, r.Name)
	case api.OpLimitSet:
		x.comes(x.world.SetLimit(r.Limit), api.KindLimit, r.Limit.Path, r.Limit.Name)
	case api.OpLimitDrop:
		x.goes(x.world.DropLimit(r.Path, r.Name), api.KindLimit, r.Path, r.Name)
	case api.OpNodeDrop:
		for _, q := range x.p.state.Quotas {
			if q.Path == r.Path {
				x.event(api.KindQuota, true, q.Path, q.Name)
			}
		}
		for _, l := range x.p.state.Limits {
			if l.Path == r.Path {
				x.event(api.KindLimit, true, l.Path, l.Name)
			}
		}
		for _, b := range x.p.state.Bindings {
			if b.Path == r.Path {
				x.event(api.KindBinding, true, b.Path, b.Name)
			}
		}
		x.bindings = slices.DeleteFunc(x.bindings, func(b api.Binding) bool { return b.Path == r.Path })
		x.goes(x.world.DropNode(r.Path), api.KindNode, r.Path, "")
	}
}

// changes tells whether a request that came to this changes the state.
func (x *draft) changes(r api.Request) bool {
	return ask.Changes(r.Op) && !r.Dry && x.reply.Code == api.OK
}

// next: the state that it would make.
func (x *draft) next() api.Dump {
	d := x.world.Dump()
	d.Version = x.p.state.Version + 1
	d.Bindings = x.bindings
	slices.SortFunc(d.Bindings, func(a, b api.Binding) int {
		one, _ := label.Split(a.Path)
		other, _ := label.Split(b.Path)
		return cmp.Or(slices.Compare(one, other), strings.Compare(a.Name, b.Name))
	})
	return d
}

// record: the bytes of the one Apply that it is.
func (x *draft) record() string {
	x.p.t.Helper()
	d := x.next()
	entries := entriesOf(x.p.t, d)
	var l []api.Change
	for _, e := range x.events {
		c := api.Change{Key: keyOf(x.p.t, e.Kind, e.Path, e.Name), Gone: e.Gone}
		for _, entry := range entries {
			if entry.Key == c.Key {
				c.Value = entry.Value
			}
		}
		l = append(l, c)
	}
	record, errno := store.Record(d.Version, l)
	if errno != api.OK {
		x.p.t.Fatalf("Record of %v: %d", l, errno)
	}
	return record
}

// do does what was found; what is told of it.
func (p *paper) do(r api.Request, x *draft) api.Reply {
	p.t.Helper()
	if x.changes(r) {
		p.become(x.next())
		if errno := p.hub.Push(x.events); errno != api.OK {
			p.t.Fatalf("Push(%v): %d", x.events, errno)
		}
		x.reply.Version = p.state.Version
	}
	return x.reply
}
