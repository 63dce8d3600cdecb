package admit_test

import (
	"fmt"
	"slices"
	"strings"
	"testing"

	"bursar/api"
	"bursar/label"
)

func labelled(o api.Object, key, value string) api.Object {
	o.Labels = []api.Label{{Key: key, Value: value}}
	return o
}

// grown: objects at paths whose order isn't that of their texts.
func grown(t *testing.T) *both {
	t.Helper()
	b := withNodes(t, "/b", "/a-b", "/a", "/a/b", "/a/b/c", "/ab", "/empty")
	for _, place := range []string{"/b x", "/a-b w", "/a/b/c x", "/a/b y", "/a/b x", "/a y", "/a x", "/ab x", "/ w"} {
		path, name, _ := strings.Cut(place, " ")
		b.creates(labelled(asks(path, name, ""), "app", name), 1, none, api.OK)
	}
	return b
}

func TestList(t *testing.T) {
	b := grown(t)
	b.lists("/", true, nil, "", 100, "/ w, /a x, /a y, /a/b x, /a/b y, /a/b/c x, /a-b w, /ab x, /b x", false, api.OK)
	b.lists("/", true, nil, "", 9, "/ w, /a x, /a y, /a/b x, /a/b y, /a/b/c x, /a-b w, /ab x, /b x", false, api.OK)
	b.lists("/", true, nil, "", 8, "/ w, /a x, /a y, /a/b x, /a/b y, /a/b/c x, /a-b w, /ab x", true, api.OK)
	b.lists("/", false, nil, "", 100, "/ w", false, api.OK)
	b.lists("/a", false, nil, "", 100, "/a x, /a y", false, api.OK)
	b.lists("/a", true, nil, "", 100, "/a x, /a y, /a/b x, /a/b y, /a/b/c x", false, api.OK)
	b.lists("/a/b/c", true, nil, "", 1, "/a/b/c x", false, api.OK)
	b.lists("/empty", true, nil, "", 1, "", false, api.OK)
	b.lists("/empty", false, nil, "", 1, "", false, api.OK)
}

// from: a place that need not be there, nor lie where is asked.
func TestListFrom(t *testing.T) {
	b := grown(t)
	for _, c := range []struct {
		path, from string
		want       string
	}{
		{"/", "/ a", "/ w, /a x"}, {"/", "/ w", "/a x, /a y"}, {"/", "/ z", "/a x, /a y"},
		{"/", "/a x", "/a y, /a/b x"}, {"/", "/a xx", "/a y, /a/b x"}, {"/", "/a y", "/a/b x, /a/b y"},
		{"/", "/a/a z", "/a/b x, /a/b y"}, {"/", "/a/b/c x", "/a-b w, /ab x"}, {"/", "/a/b/d a", "/a-b w, /ab x"}, {"/", "/a/c a", "/a-b w, /ab x"},
		{"/", "/a-a z", "/a-b w, /ab x"}, {"/", "/a-b w", "/ab x, /b x"}, {"/", "/aa z", "/ab x, /b x"}, {"/", "/empty x", ""}, {"/", "/b x", ""}, {"/", "/zz a", ""},
		{"/a", "/ w", "/a x, /a y"}, {"/a", "/a-b a", ""}, {"/a", "/a/b x", "/a/b y, /a/b/c x"}, {"/a/b", "/a z", "/a/b x, /a/b y"}, {"/b", "/a z", "/b x"}, {"/b", "/b x", ""}, {"/b", "/c x", ""},
	} {
		l, _, errno := b.list(c.path, true, nil, c.from, 2)
		var all []string
		for _, o := range l {
			all = append(all, o.Path+" "+o.Name)
		}
		if got := strings.Join(all, ", "); got != c.want || errno != api.OK {
			t.Errorf("List(%q, deep, from %q) = %q, %d, want %q", c.path, c.from, got, errno, c.want)
		}
	}
	b.lists("/a", false, nil, "a", 9, "/a x, /a y", false, api.OK)
	b.lists("/a", false, nil, "x", 9, "/a y", false, api.OK)
	b.lists("/a", false, nil, "x0", 9, "/a y", false, api.OK)
	b.lists("/a", false, nil, "y", 9, "", false, api.OK)
	b.lists("/a", false, nil, "z", 9, "", false, api.OK)
}

func TestListTerms(t *testing.T) {
	b := grown(t)
	is := func(values ...string) []api.Term {
		return []api.Term{{Key: "app", How: api.Is, Values: values}}
	}
	b.lists("/", true, is("x"), "", 2, "/a x, /a/b x", true, api.OK)
	b.lists("/", true, is("x"), "/a/b x", 3, "/a/b/c x, /ab x, /b x", false, api.OK)
	b.lists("/", true, is("x"), "/a/b x", 2, "/a/b/c x, /ab x", true, api.OK)
	b.lists("/", true, is("w", "y"), "", 4, "/ w, /a y, /a/b y, /a-b w", false, api.OK)
	b.lists("/a", false, is("y"), "", 1, "/a y", false, api.OK)
	b.lists("/a", false, is("x"), "", 1, "/a x", false, api.OK) // y is there, but isn't asked for
	b.lists("/", true, []api.Term{{Key: "app", How: api.HasNot}}, "", 1, "", false, api.OK)
	b.lists("/", true, []api.Term{{Key: "app", How: api.Has}, {Key: "app", How: api.IsNot, Values: []string{"x"}}}, "", 1, "/ w", true, api.OK)
	b.lists("/", false, []api.Term{{Key: "none", How: api.IsNot, Values: []string{""}}}, "", 1, "/ w", false, api.OK)
}

func TestListRefused(t *testing.T) {
	b := grown(t)
	wrong := []api.Term{{Key: "app", How: 4}}
	for _, most := range []int{0, -1, 101, -1 << 63, 1<<63 - 1} {
		b.lists("b", true, wrong, "?", most, "", false, api.ErrArg)
		b.lists("/", true, nil, "", most, "", false, api.ErrArg)
	}
	for _, path := range []string{"", "a", "/a/", "/A", "//", strings.Repeat("/a", 9)} {
		b.lists(path, true, wrong, "?", 1, "", false, api.ErrPath)
		b.lists(path, false, wrong, "?", 1, "", false, api.ErrPath)
	}
	b.lists("/c", true, wrong, "?", 1, "", false, api.ErrNoNode)
	b.lists("/c", false, wrong, "?", 1, "", false, api.ErrNoNode)
	var nine []api.Term
	for i := range 9 {
		nine = append(nine, api.Term{Key: fmt.Sprint("k", i), How: api.HasNot})
	}
	b.lists("/empty", true, nine[:8], "", 1, "", false, api.OK)
	for _, terms := range [][]api.Term{wrong, {{}}, {{Key: "A", How: api.Has}}, {{Key: "a", How: api.Is}}, {{Key: "a", How: api.Has, Values: []string{"x"}}}, {{Key: "a", How: api.Is, Values: []string{"x", "x"}}}, nine} {
		b.lists("/empty", true, terms, "?", 1, "", false, api.ErrTerm)
		b.lists("/", false, terms, "?", 1, "", false, api.ErrTerm)
	}
	for _, from := range []string{"x", "/a", "/a ", "/a  x", " x", "/a x ", " /a x", "a x", "/A x", "/a X", "/a/ x", "/a\tx", "/a-x", "/a x y", "//a x", " ", "\x00", "/a " + strings.Repeat("x", 33), strings.Repeat("/a", 9) + " x"} {
		b.lists("/", true, nil, from, 1, "", false, api.ErrArg)
		b.lists("/empty", true, nil, from, 1, "", false, api.ErrArg)
	}
	for _, from := range []string{"/a x", "/a", "X", " ", "x ", "-x", "a.b", "/", strings.Repeat("x", 33)} {
		b.lists("/", false, nil, from, 1, "", false, api.ErrArg)
		b.lists("/empty", false, nil, from, 1, "", false, api.ErrArg)
	}
	b.lists("/", true, nil, strings.Repeat("/a", 8)+" "+strings.Repeat("z", 32), 1, "/a/b x", true, api.OK)
	b.lists("/", false, nil, strings.Repeat("z", 32), 1, "", false, api.OK)
}

// P19.7: pages of any size tell each object once, in the order, and the last says that there are no more.
func TestPages(t *testing.T) {
	r := source(7)
	b := withNodes(t, paths[1:]...)
	for range 250 {
		o := asks(pick(r, paths...), fmt.Sprint(pick(r, "x", "y-", "9"), r.IntN(100)), "")
		o = labelled(o, "app", pick(r, "", "a", "b"))
		b.world.Create(o, 1)
	}
	dump := b.world.Dump()
	if len(dump.Objects) < 150 {
		t.Fatalf("%d objects", len(dump.Objects))
	}
	for _, terms := range [][]api.Term{nil, {{Key: "app", How: api.Is, Values: []string{"a"}}}, {{Key: "app", How: api.IsNot, Values: []string{"a", "b"}}}, {{Key: "no", How: api.Has}}} {
		for _, most := range []int{1, 2, 7, 99, 100} {
			for _, path := range paths {
				for _, deep := range []bool{true, false} {
					l := pages(t, b, path, deep, terms, most)
					want := only(dump.Objects, func(o api.Object) bool {
						holds, _ := label.Match(terms, o.Labels)
						return holds && (o.Path == path || deep && under(o.Path, path))
					})
					if !sameAll(l, want) {
						t.Fatalf("pages of %d of %q: %d objects, want %d", most, path, len(l), len(want))
					}
					if path == "/" && deep && terms == nil && !sameAll(l, dump.Objects) {
						t.Errorf("pages of %d are not Dump's", most)
					}
				}
			}
		}
	}
}

func fromOf(o api.Object, deep bool) string {
	if deep {
		return o.Path + " " + o.Name
	}
	return o.Name
}

// pages goes from page to page, as long as there are more.
func pages(t *testing.T, b *both, path string, deep bool, terms []api.Term, most int) []api.Object {
	t.Helper()
	var all []api.Object
	from := ""
	for {
		l, more, errno := b.world.List(path, deep, terms, from, most)
		if errno != api.OK || len(l) > most || more && len(l) < most || len(all) > 1<<16 {
			t.Fatalf("List(%q, %v, %v, %q, %d): %d objects, more: %v, %d", path, deep, terms, from, most, len(l), more, errno)
		}
		all = append(all, l...)
		if !more {
			return all
		}
		from = fromOf(l[len(l)-1], deep)
	}
}

// Many objects: each call still ends soon, in whatever order they come and go.
func TestManyObjects(t *testing.T) {
	const n = 5000
	b := withNodes(t, "/a", "/b")
	w := b.world
	for i := range n {
		name := fmt.Sprintf("x%04d", i*37%n)
		if _, _, errno := w.Create(asks(pick(source(uint64(i)), "/a", "/b"), name, "cpu 1"), 1); errno != api.OK {
			t.Fatalf("Create(%s): %d", name, errno)
		}
	}
	w.SetQuota(hard("/", "q", "count 5000000 requests.cpu 5000"))
	if _, d, errno := w.Create(asks("/a", "y", "cpu 0"), 1); d != tells("/", "q", "", "count") || errno != api.ErrQuota {
		t.Errorf("Create = %+v, %d", d, errno)
	}
	l := pages(t, b, "/", true, nil, 100)
	if len(l) != n || !slices.IsSortedFunc(l, byObject) || !sameAll(l, w.Dump().Objects) {
		t.Errorf("%d objects", len(l))
	}
	for i, o := range l {
		o = l[(i*41+7)%n]
		if _, errno := w.Delete(o.Path, o.Name, 1); errno != api.OK {
			t.Fatalf("Delete(%s): %d", o.Name, errno)
		}
	}
	if d := w.Dump(); len(d.Objects)+len(d.Uses) != 0 {
		t.Errorf("%d objects and %d uses are left", len(d.Objects), len(d.Uses))
	}
}
