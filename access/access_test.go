package access_test

import (
	"fmt"
	"math"
	"slices"
	"testing"

	"bursar/access"
	"bursar/api"
)

// The chapter's examples, in their order over one table.
func TestExamples(t *testing.T) {
	x := access.New()
	may(t, x, "ann", 0, "/", false)
	may(t, x, "root", 3, "/x", true)
	may(t, x, "root", 4, "/", false)
	may(t, x, "root", 0, "x", false)
	w := bind("/a", "w", "ann", api.Write)
	is(t, "Set(w)", x.Set(w), api.OK)
	may(t, x, "ann", 0, "/a/b", true)
	may(t, x, "ann", 1, "/a", true)
	may(t, x, "ann", 2, "/a", false)
	may(t, x, "ann", 0, "/", false)
	may(t, x, "ann", 0, "/ab", false)
	may(t, x, "bob", 0, "/a", false)

	k, c := bind("/a/b", "k", "ann", api.Govern), bind("/a/b", "c", "ann", api.Bind)
	is(t, "Set(k)", x.Set(k), api.OK)
	is(t, "Set(c)", x.Set(c), api.OK)
	why(t, x, "ann", 2, "/a/b/c", c, true)
	why(t, x, "ann", 1, "/a/x", w, true)
	why(t, x, "root", 0, "/", api.Binding{}, false)
	reach(t, x, "ann", 0, "/a")
	reach(t, x, "ann", 3, "/a/b")
	reach(t, x, "root", 1, "/")
	list(t, x, w, c, k)

	is(t, "Set in ann's place", x.Set(bind("/a", "w", "bob", api.Read)), api.OK)
	may(t, x, "ann", 0, "/a", false)
	is(t, "Set(W)", x.Set(bind("/a", "W", "bob", api.Read)), api.ErrObject)
	is(t, "Drop of none", x.Drop("/a", "x"), api.ErrMissing)
	is(t, "Drop at no path", x.Drop("a", "w"), api.ErrPath)
	is(t, "Drop", x.Drop("/a", "w"), api.OK)
	leave(t, x, "/a/b", 2)
	leave(t, x, "/a/b", 0)
	list(t, x)

	x = table(t, full("/a", "ann", api.Read)...)
	is(t, "the 17th", x.Set(bind("/a", "m", "ann", api.Read)), api.ErrMany)
}

// Nobody but root may do anything in a new table.
func TestNew(t *testing.T) {
	x := access.New()
	same(t, x, nil)
	leave(t, x, "/", 0)
	is(t, "Drop", x.Drop("/", "w"), api.ErrMissing)
	other := access.New()
	is(t, "Set", other.Set(bind("/", "w", "ann", 0)), api.OK)
	list(t, x)
}

// A verb includes itself and all below it, none above; what is no verb nobody may do.
func TestVerbs(t *testing.T) {
	for verb := range 4 {
		b := bind("/a", "w", "ann", verb)
		x := table(t, b)
		for asked := -2; asked < 7; asked++ {
			given := asked >= 0 && asked <= verb
			may(t, x, "ann", asked, "/a", given)
			may(t, x, "root", asked, "/a", asked >= 0 && asked <= 3)
			if given {
				why(t, x, "ann", asked, "/a", b, true)
				reach(t, x, "ann", asked, "/a")
			} else {
				why(t, x, "ann", asked, "/a", api.Binding{}, false)
				reach(t, x, "ann", asked)
			}
		}
		for _, asked := range []int{math.MinInt, -256, 256, 1 << 32, math.MaxInt} {
			may(t, x, "ann", asked, "/a", false)
			may(t, x, "root", asked, "/a", false)
			reach(t, x, "ann", asked)
			reach(t, x, "root", asked)
		}
	}
}

// A binding gives at its path and below, not above or beside it, be the names alike in their beginnings.
func TestWhere(t *testing.T) {
	x := table(t, bind("/a/b", "w", "ann", api.Read))
	for _, path := range []string{"/a/b", "/a/b/c", "/a/b/b", deep} {
		may(t, x, "ann", 0, path, true)
	}
	for _, path := range append([]string{"/", "/a", "/b", "/ab", "/a/bc", "/a/b-c", "/a/b0/c", "/a/c/b", "/b/a/b", "/a-b", "/a/b/", "/a/b//c", "/a/b/C", "/a/b/c/"}, noPaths...) {
		may(t, x, "ann", 0, path, false)
		why(t, x, "ann", 0, path, api.Binding{}, false)
	}
	x = table(t, bind("/", "w", "ann", api.Read))
	for _, path := range paths {
		may(t, x, "ann", 0, path, true)
	}
	for _, path := range noPaths {
		may(t, x, "ann", 0, path, false)
		may(t, x, "root", 0, path, false)
	}
	x = table(t, bind(deep, "w", "ann", api.Read), bind(long, "w", "ann", api.Read))
	may(t, x, "ann", 0, deep, true)
	may(t, x, "ann", 0, deep+"/i", false)
	may(t, x, "ann", 0, long, true)
	may(t, x, "ann", 0, long+"z", false)
}

// The subject "root" needs no binding; those that it has are told all the same.
func TestRoot(t *testing.T) {
	x := access.New()
	for _, path := range paths {
		for verb := range 4 {
			may(t, x, "root", verb, path, true)
			why(t, x, "root", verb, path, api.Binding{}, false)
			reach(t, x, "root", verb, "/")
		}
	}
	b := bind("/a", "w", "root", api.Write)
	is(t, "Set", x.Set(b), api.OK)
	list(t, x, b)
	why(t, x, "root", 1, "/a/b", b, true)
	why(t, x, "root", 2, "/a/b", api.Binding{}, false)
	why(t, x, "root", 0, "/", api.Binding{}, false)
	may(t, x, "root", 3, "/a", true)
	may(t, x, "root", 0, "/b", true)
	reach(t, x, "root", 0, "/")
	for _, subject := range []string{"Root", "roo", "roots", "root ", "", "/"} {
		may(t, x, subject, 0, "/a", false)
		reach(t, x, subject, 0)
	}
}

// Of those that give it, the one with the most names, then the first by its name: be it laid first or last, be its verb the greater or not.
func TestWhyTellsTheNearest(t *testing.T) {
	l := []api.Binding{
		bind("/", "a", "ann", api.Bind),
		bind("/a", "b", "ann", api.Govern),
		bind("/a", "a-b", "ann", api.Write),
		bind("/a", "a", "bob", api.Bind),
		bind("/a/b", "z", "ann", api.Read),
		bind("/a/b", "y", "ann", api.Read),
		bind("/a/b-c", "a", "ann", api.Bind),
	}
	for range 2 {
		x := table(t, l...)
		why(t, x, "ann", 0, "/a/b/c", bind("/a/b", "y", "ann", api.Read), true)
		why(t, x, "ann", 1, "/a/b/c", bind("/a", "a-b", "ann", api.Write), true)
		why(t, x, "ann", 2, "/a/b/c", bind("/a", "b", "ann", api.Govern), true)
		why(t, x, "ann", 3, "/a/b/c", bind("/", "a", "ann", api.Bind), true)
		why(t, x, "ann", 0, "/", bind("/", "a", "ann", api.Bind), true)
		why(t, x, "ann", 0, "/z", bind("/", "a", "ann", api.Bind), true)
		why(t, x, "bob", 0, "/", api.Binding{}, false)
		slices.Reverse(l)
	}
}

// Reach has the highest alone, each once, in the order of the lists of names.
func TestReach(t *testing.T) {
	x := table(t,
		bind("/b", "w", "ann", api.Read),
		bind("/a-b", "w", "ann", api.Write),
		bind("/a/b/c", "w", "ann", api.Read),
		bind("/a/b", "w", "ann", api.Read),
		bind("/a/b", "v", "ann", api.Read),
		bind("/a/b-c", "w", "ann", api.Govern),
		bind("/ab", "w", "ann", api.Read),
		bind("/a0", "w", "ann", api.Read),
		bind("/a", "w", "bob", api.Bind),
		bind("/b/c", "w", "ann", api.Bind),
	)
	reach(t, x, "ann", 0, "/a/b", "/a/b-c", "/a-b", "/a0", "/ab", "/b")
	reach(t, x, "ann", 1, "/a/b-c", "/a-b", "/b/c")
	reach(t, x, "ann", 2, "/a/b-c", "/b/c")
	reach(t, x, "ann", 3, "/b/c")
	reach(t, x, "bob", 3, "/a")
	reach(t, x, "cy", 0)
	is(t, "Set", x.Set(bind("/", "w", "ann", api.Read)), api.OK)
	reach(t, x, "ann", 0, "/")
	reach(t, x, "ann", 1, "/a/b-c", "/a-b", "/b/c")
}

// A path stands ahead of those below it, these ahead of what is beside it, though "-" is a lesser byte than "/".
func TestList(t *testing.T) {
	want := []api.Binding{
		bind("/", "m", "s", 0),
		bind("/a", "0", "s", 3),
		bind("/a", "a", "s", 0),
		bind("/a", "a-a", "r", 1),
		bind("/a", "aa", "q", 2),
		bind("/a/a", "z", "s", 0),
		bind("/a/a/a", "z", "s", 0),
		bind("/a/a-a", "a", "s", 0),
		bind("/a-a", "a", "s", 0),
		bind("/a-a/a", "a", "s", 0),
		bind("/a0", "a", "s", 0),
		bind("/aa", "a", "s", 0),
		bind("/b", "a", "s", 0),
	}
	r := source(1)
	for range 50 {
		l := slices.Clone(want)
		r.Shuffle(len(l), func(i, j int) { l[i], l[j] = l[j], l[i] })
		list(t, table(t, l...), want...)
		list(t, made(t, l), want...)
	}
}

// What is no valid binding is refused, whatever stands there, and changes nothing.
func TestSetOfNoBinding(t *testing.T) {
	good := bind("/a", "w", "ann", api.Write)
	x := table(t, append(full("/a/b", "ann", api.Read), good)...)
	refused := func(b api.Binding) {
		t.Helper()
		unchanged(t, fmt.Sprintf("Set(%.80v)", b), x, api.ErrObject, func() api.Errno { return x.Set(b) })
		if y, errno := access.Of([]api.Binding{good, b}); y != nil || errno != api.ErrObject {
			t.Errorf("Of(.., %.80v) = %v, %d", b, y, errno)
		}
	}
	for _, path := range noPaths {
		refused(bind(path, "w", "ann", api.Write))
	}
	for _, name := range noNames {
		refused(bind("/a", name, "ann", api.Write))
		refused(bind("/a", "w", name, api.Write))
		refused(bind("/a/b", name, "ann", api.Write)) // ahead of ErrMany
	}
	for _, verb := range []int{-1, 4, 256, math.MinInt, math.MaxInt} {
		refused(bind("/a", "w", "ann", verb))
		refused(bind("/a/b", "m", "ann", verb))
	}
	refused(api.Binding{})
	is(t, "Set of long names", x.Set(bind(long, many(32), many(32), api.Bind)), api.OK)
	is(t, "Set of many names", x.Set(bind(deep, "0", "0", api.Read)), api.OK)
}

// One that stands in another's place is the only one there, with its subject and verb.
func TestSetInPlace(t *testing.T) {
	x := table(t, bind("/a", "w", "ann", api.Bind), bind("/a", "v", "cy", api.Read))
	is(t, "Set", x.Set(bind("/a", "w", "bob", api.Write)), api.OK)
	list(t, x, bind("/a", "v", "cy", api.Read), bind("/a", "w", "bob", api.Write))
	may(t, x, "ann", 0, "/a", false)
	reach(t, x, "ann", 0)
	may(t, x, "bob", 1, "/a", true)
	may(t, x, "bob", 2, "/a", false)
	may(t, x, "cy", 0, "/a", true)
	is(t, "Set of a lesser verb", x.Set(bind("/a", "w", "bob", api.Read)), api.OK)
	may(t, x, "bob", 1, "/a", false)
	same(t, x, model{bind("/a", "v", "cy", api.Read), bind("/a", "w", "bob", api.Read)})
}

// At most api.MaxHeld at a path: one in the place of another comes, and others once there is room again.
func TestMany(t *testing.T) {
	x := table(t, full("/a", "ann", api.Read)...)
	more := bind("/a", "m", "ann", api.Read)
	refused := func() {
		t.Helper()
		unchanged(t, "Set of one more", x, api.ErrMany, func() api.Errno { return x.Set(more) })
	}
	refused()
	is(t, "in the place of one", x.Set(bind("/a", "n7", "bob", api.Bind)), api.OK)
	refused()
	for _, path := range []string{"/", "/a/b", "/ab", "/b"} { // what stands elsewhere doesn't count
		for _, b := range full(path, "ann", api.Read) {
			is(t, "Set elsewhere", x.Set(b), api.OK)
		}
	}
	refused()
	is(t, "Drop", x.Drop("/a", "n0"), api.OK)
	is(t, "Set with room", x.Set(more), api.OK)
	is(t, "Set without", x.Set(bind("/a", "n0", "ann", api.Read)), api.ErrMany)
	leave(t, x, "/a", 16)
	for _, b := range full("/a", "bob", api.Write) {
		is(t, "Set behind Leave", x.Set(b), api.OK)
	}
	refused()
	if n := len(x.List()); n != 5*16 {
		t.Errorf("List tells %d", n)
	}
}

// Of refuses by the first that is refused, and of its refusals by the first.
func TestOf(t *testing.T) {
	held := full("/a", "ann", api.Read)
	bad, again, more := bind("/a", "W", "ann", 0), bind("/a", "n3", "bob", 1), bind("/a", "m", "ann", 0)
	for _, c := range []struct {
		what string
		list []api.Binding
		want api.Errno
	}{
		{"no binding", []api.Binding{bad}, api.ErrObject},
		{"no binding, then one again", []api.Binding{held[3], bad, again}, api.ErrObject},
		{"one again, then no binding", []api.Binding{held[3], again, bad}, api.ErrExists},
		{"just the same again", []api.Binding{held[3], held[3]}, api.ErrExists},
		{"one again, where all is full", append(slices.Clone(held), again), api.ErrExists},
		{"one more", append(slices.Clone(held), more), api.ErrMany},
		{"one more, then no binding", append(slices.Clone(held), more, bad), api.ErrMany},
		{"one more, then one again", append(slices.Clone(held), more, again), api.ErrMany},
		{"no binding, where all is full", append(slices.Clone(held), bad, more), api.ErrObject},
	} {
		if x, errno := access.Of(c.list); x != nil || errno != c.want {
			t.Errorf("Of of %s = %v, %d, want %d", c.what, x, errno, c.want)
		}
	}
	all := held
	for _, path := range paths {
		if path != "/a" {
			all = append(all, full(path, "bob", api.Govern)...)
		}
	}
	x := made(t, all)
	list(t, x, model(all).list()...)
	is(t, "Set of one more", x.Set(more), api.ErrMany)
	for _, none := range [][]api.Binding{nil, {}} {
		list(t, made(t, none))
	}
}

func TestDrop(t *testing.T) {
	l := []api.Binding{bind("/", "w", "ann", 0), bind("/a", "w", "ann", 1), bind("/a", "v", "ann", 2), bind("/a/b", "w", "ann", 3)}
	x := table(t, l...)
	for _, path := range noPaths {
		for _, name := range []string{"w", "x", "", "W"} {
			unchanged(t, fmt.Sprintf("Drop(%.40q, %q)", path, name), x, api.ErrPath, func() api.Errno { return x.Drop(path, name) })
		}
	}
	for _, name := range append([]string{"x", "W", "w-", "vw"}, noNames...) {
		unchanged(t, fmt.Sprintf("Drop(/a, %.40q)", name), x, api.ErrMissing, func() api.Errno { return x.Drop("/a", name) })
	}
	for _, path := range []string{"/b", "/a/c", "/a/b/c", "/ab"} {
		unchanged(t, "Drop at "+path, x, api.ErrMissing, func() api.Errno { return x.Drop(path, "w") })
	}
	is(t, "Drop(/a, w)", x.Drop("/a", "w"), api.OK)
	same(t, x, model{l[0], l[2], l[3]})
	is(t, "Drop again", x.Drop("/a", "w"), api.ErrMissing)
	is(t, "Drop(/, w)", x.Drop("/", "w"), api.OK)
	same(t, x, model{l[2], l[3]})
}

// Leave takes those of just this path, not of those below or above it, whoever's they are.
func TestLeave(t *testing.T) {
	l := []api.Binding{bind("/", "w", "ann", 0), bind("/a", "w", "ann", 1), bind("/a", "v", "bob", 2), bind("/a/b", "w", "ann", 3), bind("/ab", "w", "ann", 3)}
	x := table(t, l...)
	for _, path := range append([]string{"/b", "/a/c", "/a/b/c", "/a-b"}, noPaths...) {
		was := told(x)
		leave(t, x, path, 0)
		if told(x) != was {
			t.Errorf("Leave(%.40q) has changed the table", path)
		}
	}
	leave(t, x, "/a", 2)
	same(t, x, model{l[0], l[3], l[4]})
	leave(t, x, "/a", 0)
	leave(t, x, "/", 1)
	same(t, x, model{l[3], l[4]})
}

// P21.1: a table of very many bindings is made and asked in good time.
func TestVeryMany(t *testing.T) {
	var l []api.Binding
	for i := range 2000 {
		l = append(l, full(fmt.Sprintf("/a%d/b%d", i%50, i), "ann", i%4)...)
	}
	x := made(t, l)
	if n := len(x.List()); n != len(l) {
		t.Errorf("List tells %d of %d", n, len(l))
	}
	if n := len(x.Reach("ann", api.Govern)); n != 1000 {
		t.Errorf("Reach tells %d paths", n)
	}
	why(t, x, "ann", 0, "/a7/b57/c", bind("/a7/b57", "n0", "ann", 1), true)
	is(t, "Set", x.Set(bind("/a7/b57", "m", "ann", 0)), api.ErrMany)
	leave(t, x, "/a7/b57", 16)
}
