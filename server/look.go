package server

import (
	"iter"
	"sync"

	"bursar/api"
	"bursar/label"
)

func (s *Server) get(r api.Request) outcome {
	if r.Name == "" {
		return s.children(r.Path)
	}
	o, errno := s.world.Get(r.Path, r.Name)
	if errno != api.OK {
		return s.refused(errno)
	}
	return s.told(api.Reply{Objects: []api.Object{o}})
}

func (s *Server) children(path string) outcome {
	if errno := s.node(path); errno != api.OK {
		return s.refused(errno)
	}
	names, more := page(s.below(path), api.MaxList)
	return s.told(api.Reply{Names: names, More: more})
}

// below goes through the namespaces right below one; a dump has them by name.
func (s *Server) below(path string) iter.Seq[string] {
	return func(yield func(string) bool) {
		for _, node := range s.world.Dump().Nodes {
			if above, _ := label.Parent(node); above == path && !yield(node) {
				return
			}
		}
	}
}

func (s *Server) list(r api.Request) outcome {
	first, more, errno := s.world.List(r.Path, r.Deep, r.Terms, r.From, r.Most)
	if errno != api.OK {
		return s.refused(errno)
	}
	objects, more := page(s.listed(r, first, more), r.Most)
	return s.told(api.Reply{Objects: objects, More: more})
}

// listed goes through all objects behind the place that a listing begins at, in pieces, of which the first is at hand.
func (s *Server) listed(r api.Request, piece []api.Object, more bool) iter.Seq[api.Object] {
	return func(yield func(api.Object) bool) {
		for {
			for _, o := range piece {
				if !yield(o) {
					return
				}
			}
			if !more {
				return
			}
			last := piece[len(piece)-1]
			piece, more, _ = s.world.List(r.Path, r.Deep, r.Terms, place(last, r.Deep), r.Most)
		}
	}
}

// place tells a listing's From by which it goes on behind an object.
func place(o api.Object, deep bool) string {
	if deep {
		return o.Path + " " + o.Name
	}
	return o.Name
}

// page tells the first most of a producer's items, and whether it had others. The producer has ended then.
func page[T any](all iter.Seq[T], most int) ([]T, bool) {
	items, full := make(chan T), make(chan struct{})
	var producer sync.WaitGroup
	producer.Add(1)
	go func() {
		defer producer.Done()
		produce(all, items, full)
	}()
	list, more := fill(items, most)
	close(full)
	producer.Wait()
	return list, more
}

// produce sends one item after the other, till there are no others or the page is full.
func produce[T any](all iter.Seq[T], items chan<- T, full <-chan struct{}) {
	defer close(items)
	for item := range all {
		select {
		case items <- item:
		case <-full:
			return
		}
	}
}

// fill takes one item more than a page has, if it comes: so it knows that there are others.
func fill[T any](items <-chan T, most int) ([]T, bool) {
	var list []T
	for item := range items {
		if len(list) == most {
			return list, true
		}
		list = append(list, item)
	}
	return list, false
}

func (s *Server) status(r api.Request) outcome {
	lines, errno := s.world.Status(r.Path, r.Name)
	if errno != api.OK {
		return s.refused(errno)
	}
	return s.told(api.Reply{Lines: lines})
}

// watch tells another version than all others: that up to which its events are all.
func (s *Server) watch(r api.Request) outcome {
	events, upTo, errno := s.hub.Since(r.Version, r.Path, r.Most)
	if errno != api.OK {
		return s.refused(errno)
	}
	return outcome{reply: api.Reply{Version: upTo, Events: events}}
}

func (s *Server) sync(api.Request) outcome { return s.asked(s.store.Sync()) }

func (s *Server) checkpoint(api.Request) outcome { return s.asked(s.store.Checkpoint()) }

// asked tells what the store answered.
func (s *Server) asked(errno api.Errno) outcome {
	if s.met(errno) != api.OK {
		return s.refused(errno)
	}
	return s.told(api.Reply{})
}

func (s *Server) stat(api.Request) outcome {
	return s.told(api.Reply{Stat: s.store.Stat()})
}
