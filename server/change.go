package server

import (
	"slices"

	"bursar/access"
	"bursar/admit"
	"bursar/api"
	"bursar/evict"
	"bursar/label"
	"bursar/object"
)

// What a world or a table would answer to a change is asked of a draft, which has all that the answer hangs on: the state itself may change only behind the store.

// draft expects what stands in a world already: so it isn't refused.
func draft(d api.Dump) *admit.World {
	w, _ := admit.Of(d)
	return w
}

// at tells of the world what a change of a namespace, or of a quota or limit range in it, hangs on.
func (s *Server) at(path string) api.Dump {
	d := s.world.Dump()
	d.Quotas = slices.DeleteFunc(d.Quotas, func(q api.Quota) bool { return q.Path != path })
	d.Limits = slices.DeleteFunc(d.Limits, func(l api.LimitRange) bool { return l.Path != path })
	d.Objects = slices.DeleteFunc(d.Objects, func(o api.Object) bool { return !label.Under(o.Path, path) })
	return d
}

// line tells the namespaces of a path's line that are there.
func (s *Server) line(path string) []string {
	line, _ := label.Line(path) // of what is no path none
	return slices.DeleteFunc(line, func(one string) bool { return s.node(one) != api.OK })
}

// node tells whether a namespace is there: each listing asks for that.
func (s *Server) node(path string) api.Errno {
	_, _, errno := s.world.List(path, false, nil, "", 1)
	return errno
}

func (s *Server) addNode(r api.Request) outcome {
	if errno := draft(api.Dump{Nodes: s.line(r.Path)}).AddNode(r.Path); errno != api.OK {
		return s.refused(errno)
	}
	settle := func() { s.world.AddNode(r.Path) }
	return s.change(nil, settle, coming(api.KindNode, r.Path, "", ""))
}

func (s *Server) dropNode(r api.Request) outcome {
	here := s.at(r.Path)
	if errno := draft(here).DropNode(r.Path); errno != api.OK {
		return s.refused(errno)
	}
	var gone []record
	for _, q := range here.Quotas {
		gone = append(gone, going(api.KindQuota, q.Path, q.Name))
	}
	for _, l := range here.Limits {
		gone = append(gone, going(api.KindLimit, l.Path, l.Name))
	}
	for _, b := range s.bindingsAt(r.Path) {
		gone = append(gone, going(api.KindBinding, b.Path, b.Name))
	}
	gone = append(gone, going(api.KindNode, r.Path, ""))
	settle := func() {
		s.world.DropNode(r.Path)
		s.table.Leave(r.Path)
	}
	return s.change(nil, settle, gone...)
}

func (s *Server) setQuota(r api.Request) outcome {
	q := r.Quota
	if detail, errno := draft(s.at(q.Path)).SetQuota(q); errno != api.OK {
		return s.refusedBy(errno, detail)
	}
	value, _ := object.EncodeQuota(q)
	settle := func() { s.world.SetQuota(q) }
	return s.change(nil, settle, coming(api.KindQuota, q.Path, q.Name, value))
}

func (s *Server) dropQuota(r api.Request) outcome {
	if errno := draft(s.at(r.Path)).DropQuota(r.Path, r.Name); errno != api.OK {
		return s.refused(errno)
	}
	settle := func() { s.world.DropQuota(r.Path, r.Name) }
	return s.change(nil, settle, going(api.KindQuota, r.Path, r.Name))
}

func (s *Server) setLimit(r api.Request) outcome {
	l := r.Limit
	if errno := draft(s.at(l.Path)).SetLimit(l); errno != api.OK {
		return s.refused(errno)
	}
	value, _ := object.EncodeLimit(l)
	settle := func() { s.world.SetLimit(l) }
	return s.change(nil, settle, coming(api.KindLimit, l.Path, l.Name, value))
}

func (s *Server) dropLimit(r api.Request) outcome {
	if errno := draft(s.at(r.Path)).DropLimit(r.Path, r.Name); errno != api.OK {
		return s.refused(errno)
	}
	settle := func() { s.world.DropLimit(r.Path, r.Name) }
	return s.change(nil, settle, going(api.KindLimit, r.Path, r.Name))
}

// next tells the version that a change would make.
func (s *Server) next() int64 { return s.Version() + 1 }

func (s *Server) create(r api.Request) outcome {
	version := s.next()
	stored, detail, errno := s.world.Try(r.Object, false, version, 0)
	if errno != api.OK {
		return s.refusedBy(errno, detail)
	}
	settle := func() { s.world.Create(r.Object, version) }
	return s.change([]api.Object{stored}, settle, objectComing(stored))
}

func (s *Server) update(r api.Request) outcome {
	version := s.next()
	stored, detail, errno := s.world.Try(r.Object, true, version, r.Version)
	if errno != api.OK {
		return s.refusedBy(errno, detail)
	}
	settle := func() { s.world.Update(r.Object, version, r.Version) }
	return s.change([]api.Object{stored}, settle, objectComing(stored))
}

func (s *Server) remove(r api.Request) outcome {
	gone, errno := draft(s.alone(r.Path, r.Name)).Delete(r.Path, r.Name, r.Version)
	if errno != api.OK {
		return s.refused(errno)
	}
	settle := func() { s.world.Delete(r.Path, r.Name, r.Version) }
	return s.change([]api.Object{gone}, settle, going(api.KindObject, r.Path, r.Name))
}

// alone tells of the world one object, if it is there, and where it lies.
func (s *Server) alone(path, name string) api.Dump {
	o, errno := s.world.Get(path, name)
	if errno != api.OK {
		return api.Dump{}
	}
	return api.Dump{Nodes: s.line(path), Objects: []api.Object{o}}
}

func (s *Server) evict(r api.Request) outcome {
	plan, errno := evict.Plan(s.world, r.Object)
	if errno != api.OK {
		return s.refused(errno)
	}
	w := draft(s.world.Dump())
	var records []record
	for _, o := range plan {
		w.Delete(o.Path, o.Name, 0)
		records = append(records, going(api.KindObject, o.Path, o.Name))
	}
	stored, _, errno := w.Create(r.Object, s.next())
	if errno != api.OK {
		return s.refused(errno)
	}
	records = append(records, objectComing(stored))
	settle := func() { s.world = w } // the draft was of the whole world
	return s.change(append(plan, stored), settle, records...)
}

func (s *Server) bind(r api.Request) outcome {
	b := r.Binding
	if object.ValidBinding(b) != api.OK {
		return s.refused(api.ErrObject)
	}
	if errno := s.node(b.Path); errno != api.OK {
		return s.refused(errno)
	}
	if errno := s.draftTable(b.Path).Set(b); errno != api.OK {
		return s.refused(errno)
	}
	value, _ := object.EncodeBinding(b)
	settle := func() { s.table.Set(b) }
	return s.change(nil, settle, coming(api.KindBinding, b.Path, b.Name, value))
}

func (s *Server) unbind(r api.Request) outcome {
	if errno := s.draftTable(r.Path).Drop(r.Path, r.Name); errno != api.OK {
		return s.refused(errno)
	}
	settle := func() { s.table.Drop(r.Path, r.Name) }
	return s.change(nil, settle, going(api.KindBinding, r.Path, r.Name))
}

func (s *Server) draftTable(path string) *access.Table {
	t, _ := access.Of(s.bindingsAt(path)) // they stand in a table already
	return t
}

// bindingsAt tells the bindings of a namespace, by name.
func (s *Server) bindingsAt(path string) []api.Binding {
	return slices.DeleteFunc(s.table.List(), func(b api.Binding) bool { return b.Path != path })
}
