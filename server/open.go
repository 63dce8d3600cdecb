package server

import (
	"bursar/access"
	"bursar/admit"
	"bursar/api"
	"bursar/dev"
	"bursar/object"
	"bursar/store"
	"bursar/watch"
)

// Open recovers one.
func Open(d *dev.Dev) (*Server, api.Errno) {
	held, errno := store.Open(d)
	if errno != api.OK {
		return nil, errno
	}
	// All at once: each page is read but once more.
	entries, _, errno := held.Scan("", "", held.Stat().Entries)
	if errno != api.OK {
		return nil, errno
	}
	s, ok := of(entries)
	if !ok {
		return nil, api.ErrCorrupt
	}
	s.store = held
	s.hub = watch.New(held.Version())
	return s, api.OK
}

// of tells a server of the state whose records these entries are, still without a store; false: they are no state's.
func of(entries []api.Entry) (*Server, bool) {
	var d api.Dump
	for _, entry := range entries {
		if !take(&d, entry) {
			return nil, false
		}
	}
	world, errno := admit.Of(d)
	if errno != api.OK {
		return nil, false
	}
	table, errno := access.Of(d.Bindings)
	if errno != api.OK {
		return nil, false
	}
	s := &Server{world: world, table: table}
	for _, b := range d.Bindings {
		if s.node(b.Path) != api.OK {
			return nil, false
		}
	}
	return s, true
}

// take lays an entry's record into a dump, if it is one.
func take(d *api.Dump, entry api.Entry) bool {
	kind, path, name, errno := object.Unkey(entry.Key)
	if errno != api.OK {
		return false
	}
	switch kind {
	case api.KindNode:
		d.Nodes = append(d.Nodes, path)
		return path != root && entry.Value == ""
	case api.KindQuota:
		q, errno := object.DecodeQuota(entry.Value)
		d.Quotas = append(d.Quotas, q)
		return errno == api.OK && q.Path == path && q.Name == name
	case api.KindLimit:
		l, errno := object.DecodeLimit(entry.Value)
		d.Limits = append(d.Limits, l)
		return errno == api.OK && l.Path == path && l.Name == name
	case api.KindObject:
		o, errno := object.DecodeObject(entry.Value)
		d.Objects = append(d.Objects, o)
		return errno == api.OK && o.Path == path && o.Name == name
	}
	b, errno := object.DecodeBinding(entry.Value)
	d.Bindings = append(d.Bindings, b)
	return errno == api.OK && b.Path == path && b.Name == name
}
