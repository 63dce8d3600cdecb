package admit

import (
	"cmp"
	"slices"
	"strings"

	"bursar/api"
)

// shelf: the records of one kind, at each path by their names, rising.
type shelf[T any] struct {
	nameOf func(T) string
	lists  map[string][]T // none that is empty
}

func newShelf[T any](nameOf func(T) string) shelf[T] {
	return shelf[T]{nameOf, map[string][]T{}}
}

// at tells the records at a path, as the shelf itself holds them.
func (s shelf[T]) at(path string) []T { return s.lists[path] }

func (s shelf[T]) count(path string) int { return len(s.lists[path]) }

// line tells those at each of some paths.
func (s shelf[T]) line(paths []string) [][]T {
	return each(paths, s.at)
}

// find tells where a name stands, or would stand, and whether it does.
func (s shelf[T]) find(path, name string) (int, bool) {
	return slices.BinarySearchFunc(s.lists[path], name, func(record T, name string) int {
		return cmp.Compare(s.nameOf(record), name)
	})
}

// behind tells the records whose names come behind one, which need not be there.
func (s shelf[T]) behind(path, name string) []T {
	at, there := s.find(path, name)
	if there {
		at++
	}
	return s.lists[path][at:]
}

func (s shelf[T]) get(path, name string) (T, bool) {
	at, there := s.find(path, name)
	if !there {
		var none T
		return none, false
	}
	return s.lists[path][at], true
}

// put lays a record down, in the place of the one with its name, if there is one.
func (s shelf[T]) put(path string, record T) {
	at, there := s.find(path, s.nameOf(record))
	if there {
		s.lists[path][at] = record
		return
	}
	s.lists[path] = slices.Insert(s.lists[path], at, record)
}

func (s shelf[T]) drop(path, name string) api.Errno {
	at, there := s.find(path, name)
	if !there {
		return api.ErrMissing
	}
	if s.count(path) == 1 {
		s.clear(path)
		return api.OK
	}
	s.lists[path] = slices.Delete(s.lists[path], at, at+1)
	return api.OK
}

func (s shelf[T]) clear(path string) { delete(s.lists, path) }

// each tells a new list of what comes of each element.
func each[T, U any](l []T, become func(T) U) []U {
	var list []U
	for _, one := range l {
		list = append(list, become(one))
	}
	return list
}

// What is kept and what is told are copies, their texts too: one that was cut from a longer text would hold on to all of that.

func copiedObject(o api.Object) api.Object {
	o.Path, o.Name = strings.Clone(o.Path), strings.Clone(o.Name)
	o.Labels = each(o.Labels, copiedLabel)
	o.Parts = each(o.Parts, copiedPart)
	return o
}

func copiedLabel(l api.Label) api.Label {
	return api.Label{Key: strings.Clone(l.Key), Value: strings.Clone(l.Value)}
}

func copiedPart(p api.Part) api.Part {
	return api.Part{Name: strings.Clone(p.Name), Requests: each(p.Requests, copiedAmount), Limits: each(p.Limits, copiedAmount)}
}

func copiedAmount(a api.Amount) api.Amount {
	a.Name = strings.Clone(a.Name)
	return a
}

func copiedQuota(q api.Quota) api.Quota {
	q.Path, q.Name = strings.Clone(q.Path), strings.Clone(q.Name)
	q.Hard = each(q.Hard, copiedAmount)
	return q
}

func copiedLimit(l api.LimitRange) api.LimitRange {
	l.Path, l.Name = strings.Clone(l.Path), strings.Clone(l.Name)
	l.Rules = each(l.Rules, func(r api.Rule) api.Rule {
		r.Resource = strings.Clone(r.Resource)
		return r
	})
	return l
}
