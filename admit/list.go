package admit

import (
	"slices"
	"strings"

	"bursar/api"
	"bursar/label"
)

const blank = " " // stands in no path and in no name, so it parts them

// List tells a page of the objects that satisfy the terms, and whether there are more.
func (w *World) List(path string, deep bool, terms []api.Term, from string, most int) ([]api.Object, bool, api.Errno) {
	if most < 1 || most > api.MaxPage {
		return nil, false, api.ErrArg
	}
	paths, errno := w.reach(path, deep)
	if errno != api.OK {
		return nil, false, errno
	}
	if _, errno := label.Match(terms, nil); errno != api.OK {
		return nil, false, errno
	}
	first, name, ok := begin(path, deep, from)
	if !ok {
		return nil, false, api.ErrArg
	}
	var page []api.Object
	for o := range w.behind(paths, first, name) {
		if holds, _ := label.Match(terms, o.Labels); !holds {
			continue
		}
		if len(page) == most {
			return page, true, api.OK
		}
		page = append(page, copiedObject(*o))
	}
	return page, false, api.OK
}

// reach tells the paths whose objects are asked for, in order.
func (w *World) reach(path string, deep bool) ([]string, api.Errno) {
	if deep {
		return w.nodes.Walk(path)
	}
	line, errno := w.nodes.Line(path)
	if errno != api.OK {
		return nil, errno
	}
	return line[:1], api.OK
}

// begin tells behind which path and name a page begins; no name comes ahead of the empty one, and no path ahead of the root.
func begin(path string, deep bool, from string) (string, string, bool) {
	switch {
	case from == "" && deep:
		return root, "", true
	case from == "":
		return path, "", true
	case !deep:
		return path, from, label.Name(from)
	}
	first, name, cut := strings.Cut(from, blank)
	return first, name, cut && label.Path(first) == api.OK && label.Name(name)
}

// behind goes through the objects at some paths, which stand in order, from behind a path and name on.
func (w *World) behind(paths []string, first, name string) func(yield func(*api.Object) bool) {
	return func(yield func(*api.Object) bool) {
		at, there := slices.BinarySearchFunc(paths, first, comparePaths)
		for i, path := range paths[at:] {
			list := w.objects.at(path)
			if there && i == 0 {
				list = w.objects.behind(path, name)
			}
			for _, o := range list {
				if !yield(o) {
					return
				}
			}
		}
	}
}

// comparePaths tells the order of two paths' lists of names.
func comparePaths(a, b string) int {
	one, _ := label.Split(a)
	other, _ := label.Split(b)
	return slices.Compare(one, other)
}
