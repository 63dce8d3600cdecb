package nest_test

import (
	"fmt"
	"slices"
	"strings"
	"testing"

	"bursar/api"
	"bursar/key"
	"bursar/label"
	"bursar/nest"
)

func list(paths ...string) []string { return paths }

func told(t *testing.T, what string, call func(string) ([]string, api.Errno), path string, want []string, wantErrno api.Errno) {
	t.Helper()
	l, errno := call(path)
	tells(t, what+"("+path+")", l, errno, want, wantErrno)
}

func common(t *testing.T, n *nest.Nest, a, b, want string, wantErrno api.Errno) {
	t.Helper()
	if s, errno := n.Common(a, b); s != want || errno != wantErrno {
		t.Errorf("Common(%q, %q) = %q, %d, want %q, %d", a, b, s, errno, want, wantErrno)
	}
}

func counts(t *testing.T, n *nest.Nest, want int) {
	t.Helper()
	if n.Count() != want {
		t.Errorf("Count = %d, want %d", n.Count(), want)
	}
}

func TestNew(t *testing.T) {
	n := nest.New()
	counts(t, n, 1)
	told(t, "Walk", n.Walk, "/", list("/"), api.OK)
	told(t, "Line", n.Line, "/", list("/"), api.OK)
	told(t, "Children", n.Children, "/", nil, api.OK)
	common(t, n, "/", "/", "/", api.OK)
	is(t, "Drop(/)", n.Drop("/"), api.ErrRoot)
	is(t, "Add(/)", n.Add("/"), api.ErrNode)
	counts(t, n, 1)
}

func TestExamples(t *testing.T) {
	n := grown(t, "/b", "/a", "/a/x", "/a-b")
	is(t, "Add(/a)", n.Add("/a"), api.ErrNode)
	is(t, "Add(/)", n.Add("/"), api.ErrNode)
	is(t, "Add(/c/d)", n.Add("/c/d"), api.ErrNoNode)
	is(t, "Add(a)", n.Add("a"), api.ErrPath)
	told(t, "Walk", n.Walk, "/", list("/", "/a", "/a/x", "/a-b", "/b"), api.OK)
	told(t, "Walk", n.Walk, "/a", list("/a", "/a/x"), api.OK)
	told(t, "Walk", n.Walk, "/a-b", list("/a-b"), api.OK)
	told(t, "Children", n.Children, "/", list("/a", "/a-b", "/b"), api.OK)
	told(t, "Children", n.Children, "/a", list("/a/x"), api.OK)
	told(t, "Children", n.Children, "/b", nil, api.OK)
	told(t, "Line", n.Line, "/a/x", list("/a/x", "/a", "/"), api.OK)
	told(t, "Walk", n.Walk, "/c", nil, api.ErrNoNode)
	told(t, "Walk", n.Walk, "", nil, api.ErrPath)
	common(t, n, "/a/x", "/a-b", "/", api.OK)
	common(t, n, "/a/x", "/a", "/a", api.OK)
	common(t, n, "/a", "/c", "", api.ErrNoNode)
	counts(t, n, 5)
	is(t, "Drop(/a)", n.Drop("/a"), api.ErrChildren)
	is(t, "Drop(/)", n.Drop("/"), api.ErrRoot)
	is(t, "Drop(/c)", n.Drop("/c"), api.ErrNoNode)
	is(t, "Drop(/a/x)", n.Drop("/a/x"), api.OK)
	is(t, "Drop(/a)", n.Drop("/a"), api.OK)
	counts(t, n, 3)
	is(t, "Drop(/a)", n.Drop("/a"), api.ErrNoNode)
	is(t, "Add(/a/x)", n.Add("/a/x"), api.ErrNoNode)
}

func TestOf(t *testing.T) {
	for _, c := range []struct {
		paths, walk []string
		errno       api.Errno
	}{
		{nil, list("/"), api.OK},
		{list(), list("/"), api.OK},
		{list("/"), list("/"), api.OK},
		{list("/a/x", "/a"), list("/", "/a", "/a/x"), api.OK},
		{list("/", "/a"), list("/", "/a"), api.OK},
		{list("/a-b", "/a/x/y", "/a/x", "/b", "/", "/a"), list("/", "/a", "/a/x", "/a/x/y", "/a-b", "/b"), api.OK},
		{list("/a/x"), nil, api.ErrNoNode},
		{list("/", "/a/x"), nil, api.ErrNoNode},
		{list("/a/x/y", "/a"), nil, api.ErrNoNode},
		{list("/a-b", "/a/x"), nil, api.ErrNoNode},
		{list("/a", "/a"), nil, api.ErrNode},
		{list("/", "/"), nil, api.ErrNode},
		{list("/", "/a", "/"), nil, api.ErrNode},
		{list("/a", "/a/x", "/b", "/a"), nil, api.ErrNode},
		{list("/a", "/a b"), nil, api.ErrPath},
		{list(""), nil, api.ErrPath},
		{list("/a", "/a/"), nil, api.ErrPath},
		// What is told first: a text that is no path, then one that stands twice, wherever they stand.
		{list("/b/c", "/a", "/a"), nil, api.ErrNode},
		{list("/a", "/a", "/b/c"), nil, api.ErrNode},
		{list("/b/c", "/b/c"), nil, api.ErrNode},
		{list("/a", "/a", "b"), nil, api.ErrPath},
		{list("/b/c", "b"), nil, api.ErrPath},
		{list("b", "b"), nil, api.ErrPath},
		{list("/a", "/a", "/b/c", ""), nil, api.ErrPath},
	} {
		n, errno := nest.Of(c.paths)
		is(t, fmt.Sprint("Of ", c.paths), errno, c.errno)
		if (n != nil) != (c.errno == api.OK) {
			t.Errorf("Of(%v) = %v", c.paths, n)
		}
		if n != nil {
			told(t, "Walk", n.Walk, "/", c.walk, api.OK)
			counts(t, n, len(c.walk))
		}
	}
}

// What is no path is told so by every call, whatever is there, and nothing comes of it.
func TestNoPaths(t *testing.T) {
	texts := slices.Clone(noPaths)
	for b := range 256 {
		for _, form := range []string{"/a?", "/?", "/a?b", "?a", "?"} {
			text := strings.ReplaceAll(form, "?", string([]byte{byte(b)}))
			if !isPath(text) {
				texts = append(texts, text)
			}
		}
	}
	n := grown(t, "/a", "/a/b", "/x")
	was := all(n)
	for _, text := range texts {
		is(t, "Add", n.Add(text), api.ErrPath)
		is(t, "Drop", n.Drop(text), api.ErrPath)
		if n.Has(text) {
			t.Errorf("Has(%q)", text)
		}
		told(t, "Children", n.Children, text, nil, api.ErrPath)
		told(t, "Walk", n.Walk, text, nil, api.ErrPath)
		told(t, "Line", n.Line, text, nil, api.ErrPath)
		for _, other := range list("/", "/a/b", "/gone", "/a/gone", "", text) {
			common(t, n, text, other, "", api.ErrPath)
			common(t, n, other, text, "", api.ErrPath)
		}
		for _, paths := range [][]string{{text}, {"/a", text}, {text, "/a", "/b/c"}, {"/", "/", text}} {
			if made, errno := nest.Of(paths); made != nil || errno != api.ErrPath {
				t.Errorf("Of(%q) = %v, %d", paths, made, errno)
			}
		}
	}
	if all(n) != was {
		t.Errorf("now %s", all(n))
	}
}

func TestNotThere(t *testing.T) {
	n := grown(t, "/a", "/a/b")
	was := all(n)
	for _, path := range list("/b", "/a/c", "/a/b/c", "/b/b", "/a-b", "/aa", "/a/b/c/d/e/f/g/h") {
		is(t, "Drop", n.Drop(path), api.ErrNoNode)
		if n.Has(path) {
			t.Errorf("Has(%q)", path)
		}
		told(t, "Children", n.Children, path, nil, api.ErrNoNode)
		told(t, "Walk", n.Walk, path, nil, api.ErrNoNode)
		told(t, "Line", n.Line, path, nil, api.ErrNoNode)
		for _, other := range list("/", "/a", "/a/b", "/gone", path) {
			common(t, n, path, other, "", api.ErrNoNode)
			common(t, n, other, path, "", api.ErrNoNode)
		}
	}
	for _, path := range list("/b/c", "/a/c/d", "/a/b/c/d", "/a-b/c", "/a/b/c/d/e/f/g/h") {
		is(t, "Add("+path+")", n.Add(path), api.ErrNoNode)
	}
	if all(n) != was {
		t.Errorf("now %s", all(n))
	}
}

func TestDeepestAndLongest(t *testing.T) {
	n, m := nest.New(), model{"/": true}
	path := ""
	for range 8 {
		path += "/n"
		is(t, "Add("+path+")", n.Add(path), m.add(path))
	}
	is(t, "Add of nine names", n.Add(path+"/n"), api.ErrPath)
	longest := "/" + long(32)
	is(t, "Add of 32 bytes", n.Add(longest), m.add(longest))
	longest += "/" + long(30)
	is(t, "Add of 64 bytes", n.Add(longest), m.add(longest))
	is(t, "Add of 65 bytes", n.Add(longest+"x"), api.ErrPath)
	counts(t, n, 11)
	agrees(t, n, m)
	common(t, n, path, longest, "/", api.OK)
	common(t, n, path, path[:14], path[:14], api.OK)
	for path != "/" {
		if path != "/n" {
			is(t, "Drop of one above", n.Drop(above(path)), m.drop(above(path)))
		}
		is(t, "Drop("+path+")", n.Drop(path), m.drop(path))
		agrees(t, n, m)
		path = above(path)
	}
	counts(t, n, 3)
}

// Siblings whose names begin one another, and whose texts would stand otherwise with what lies below them.
func TestOrder(t *testing.T) {
	var paths []string
	for _, top := range list("", "/a", "/a-b", "/a0", "/a/a") {
		for _, name := range list("a", "a-b", "a0", "a-0", "aa", "0", "9", "z", "a--b") {
			paths = append(paths, top+"/"+name)
		}
	}
	n := made(t, paths)
	walk, errno := n.Walk("/")
	if errno != api.OK || len(walk) != len(paths)+1 {
		t.Fatalf("Walk = %v, %d", walk, errno)
	}
	for i := 1; i < len(walk); i++ {
		before, _ := label.Split(walk[i-1])
		behind, _ := label.Split(walk[i])
		if key.Compare(before, behind) != -1 {
			t.Errorf("%q stands ahead of %q", walk[i-1], walk[i])
		}
	}
	told(t, "Children", n.Children, "/a", list("/a/0", "/a/9", "/a/a", "/a/a--b", "/a/a-0", "/a/a-b", "/a/a0", "/a/aa", "/a/z"), api.OK)
}

func TestMany(t *testing.T) {
	var paths []string
	for i := range 3000 {
		paths = append(paths, fmt.Sprintf("/n%04d", i))
	}
	want := slices.Clone(paths)
	r := source(1)
	r.Shuffle(len(paths), func(i, j int) { paths[i], paths[j] = paths[j], paths[i] })
	n := grown(t, paths...)
	told(t, "Children", n.Children, "/", want, api.OK)
	told(t, "Walk", n.Walk, "/", slices.Insert(slices.Clone(want), 0, "/"), api.OK)
	if all(made(t, paths)) != all(n) {
		t.Error("Of tells another nest")
	}
	for i, path := range paths {
		is(t, "Drop("+path+")", n.Drop(path), api.OK)
		counts(t, n, 3000-i)
	}
	told(t, "Walk", n.Walk, "/", list("/"), api.OK)
}
