package nest_test

import (
	"slices"
	"testing"

	"bursar/api"
	"bursar/label"
	"bursar/nest"
)

// isTree asks for what holds behind every call, by the nest's own answers and layer 4's alone.
func isTree(t *testing.T, n *nest.Nest) {
	t.Helper()
	walk, errno := n.Walk("/")
	if errno != api.OK || len(walk) != n.Count() || walk[0] != "/" {
		t.Fatalf("Walk = %v, %d; Count = %d", walk, errno, n.Count())
	}
	stands := map[string]bool{}
	for _, path := range walk {
		if stands[path] {
			t.Errorf("%q stands twice in %v", path, walk)
		}
		if top, errno := label.Parent(path); errno == api.OK && !stands[top] {
			t.Errorf("%q stands ahead of the one above it in %v", path, walk)
		}
		stands[path] = true
		want, wantErrno := label.Line(path)
		line, errno := n.Line(path)
		tells(t, "Line("+path+")", line, errno, want, wantErrno)
		walks := []string{path}
		children, errno := n.Children(path)
		if errno != api.OK {
			t.Errorf("Children(%q) = %d", path, errno)
		}
		for _, child := range children {
			below, errno := n.Walk(child)
			if errno != api.OK {
				t.Errorf("Walk(%q) = %d", child, errno)
			}
			walks = append(walks, below...)
		}
		below, errno := n.Walk(path)
		tells(t, "Walk("+path+")", below, errno, walks, api.OK)
	}
}

// Random scripts, each call held against the model, refused or not.
func TestScripts(t *testing.T) {
	for seed := range uint64(60) {
		r := source(100 + seed)
		n, m := nest.New(), model{"/": true}
		for range 300 {
			path := anyPath(r)
			was := all(n)
			var errno, want api.Errno
			if r.IntN(5) < 3 {
				errno, want = n.Add(path), m.add(path)
			} else {
				errno, want = n.Drop(path), m.drop(path)
			}
			is(t, "Add or Drop of "+path, errno, want)
			if errno != api.OK && all(n) != was {
				t.Errorf("refused, but now %s, not %s", all(n), was)
			}
			asked(t, n, m, path)
			asked(t, n, m, anyPath(r))
			askedCommon(t, n, m, path, anyPath(r))
			if r.IntN(10) == 0 {
				agrees(t, n, m)
				isTree(t, n)
			}
			if t.Failed() {
				t.Fatalf("seed %d", seed)
			}
		}
		agrees(t, n, m)
		isTree(t, n)
	}
}

// randomNest adds paths at random; what is refused is left out.
func randomNest(seed uint64, calls int) (*nest.Nest, model) {
	r := source(seed)
	n, m := nest.New(), model{"/": true}
	for range calls {
		path := anyPath(r)
		n.Add(path)
		m.add(path)
	}
	return n, m
}

func TestAddAndDropLeaveAll(t *testing.T) {
	for seed := range uint64(20) {
		n, m := randomNest(200+seed, 150)
		was := all(n)
		r := source(300 + seed)
		for range 200 {
			path := anyPath(r)
			if n.Add(path) != api.OK {
				continue
			}
			if all(n) == was || !n.Has(path) || n.Count() != len(m)+1 {
				t.Errorf("Add(%q) adds nothing", path)
			}
			isTree(t, n)
			is(t, "Drop("+path+")", n.Drop(path), api.OK)
			if all(n) != was {
				t.Errorf("behind Add and Drop of %q: %s, was %s", path, all(n), was)
			}
		}
		agrees(t, n, m)
	}
}

func TestOfTheWalkIsTheNest(t *testing.T) {
	for seed := range uint64(40) {
		n, m := randomNest(400+seed, 200)
		r := source(500 + seed)
		walk, _ := n.Walk("/")
		for range 5 {
			if all(made(t, walk)) != all(n) {
				t.Errorf("Of(%v) is another nest", walk)
			}
			agrees(t, made(t, walk), m)
			r.Shuffle(len(walk), func(i, j int) { walk[i], walk[j] = walk[j], walk[i] })
		}
		// The root need not be named; the others in some order in which they can be added are the same nest.
		walk = slices.DeleteFunc(walk, func(path string) bool { return path == "/" })
		if all(made(t, walk)) != all(n) {
			t.Errorf("Of(%v) is another nest", walk)
		}
		slices.SortStableFunc(walk, func(a, b string) int { return len(namesOf(a)) - len(namesOf(b)) })
		if all(grown(t, walk...)) != all(n) {
			t.Errorf("%v, added one by one, are another nest", walk)
		}
	}
}

func TestOfAnyList(t *testing.T) {
	r := source(600)
	seen := map[api.Errno]int{}
	for range 20000 {
		var paths []string
		for range r.IntN(7) {
			paths = append(paths, pick(r, "/", "/a", "/a", "/b", "/a/b", "/a/b/a", "/a-b", "/a-b/a", anyPath(r)))
		}
		n, errno := nest.Of(paths)
		m, want := modelOf(paths)
		is(t, "Of", errno, want)
		seen[want]++
		if want != api.OK {
			if n != nil {
				t.Errorf("Of(%q) = %v, %d", paths, n, errno)
			}
			continue
		}
		agrees(t, n, m)
		if t.Failed() {
			t.Fatalf("Of(%q)", paths)
		}
	}
	if len(seen) != 4 {
		t.Errorf("only these came about: %v", seen)
	}
}

func TestCommonOfAllPairs(t *testing.T) {
	for seed := range uint64(6) {
		n, m := randomNest(700+seed, 90)
		walk, _ := n.Walk("/")
		for _, a := range walk {
			common(t, n, a, a, a, api.OK)
			for _, b := range walk {
				askedCommon(t, n, m, a, b)
				ab, errno := n.Common(a, b)
				common(t, n, b, a, ab, errno)
				lineA, _ := n.Line(a)
				lineB, _ := n.Line(b)
				if !slices.Contains(lineA, ab) || !slices.Contains(lineB, ab) {
					t.Errorf("Common(%q, %q) = %q stands not in both lines", a, b, ab)
				}
				children, _ := n.Children(ab)
				for _, child := range children {
					if slices.Contains(lineA, child) && slices.Contains(lineB, child) {
						t.Errorf("Common(%q, %q) = %q, but both lie in %q", a, b, ab, child)
					}
				}
			}
		}
	}
}

// spoil writes over a list and over its spare room.
func spoil(l []string) {
	l = l[:cap(l)]
	for i := range l {
		l[i] = "/spoilt"
	}
}

func TestAnswersAreNew(t *testing.T) {
	n, m := randomNest(800, 150)
	for path := range m {
		for _, call := range []func(string) ([]string, api.Errno){n.Children, n.Walk, n.Line} {
			one, _ := call(path)
			other, _ := call(path)
			kept := slices.Clone(other)
			spoil(one)
			if !slices.Equal(other, kept) {
				t.Errorf("two answers of %q share memory", path)
			}
			_ = append(other[:0], "/spoilt", "/spoilt")
			agrees(t, n, m)
		}
		if t.Failed() {
			t.FailNow()
		}
	}
	// Spare room that an answer had may be what the next path is laid into.
	children, _ := n.Children("/")
	is(t, "Add(/zz)", n.Add("/zz"), m.add("/zz"))
	spoil(children)
	agrees(t, n, m)
}

func TestHandedInStays(t *testing.T) {
	for _, c := range [][]string{{"/b", "/a/x", "/", "/a"}, {"/b", "/a", "/b", "/a"}, {"/b/c", "/a"}, {"/b", "/a", "x"}} {
		whole := append(slices.Clone(c), "/spare", "/a", "/spare")
		kept := slices.Clone(whole)
		n, _ := nest.Of(whole[:len(c)])
		if !slices.Equal(whole, kept) {
			t.Errorf("Of(%v) leaves %v", c, whole)
		}
		if n == nil {
			continue
		}
		was := all(n)
		spoil(whole)
		if all(n) != was {
			t.Errorf("Of(%v) keeps what it was handed", c)
		}
	}
}

func TestEachIsItsOwn(t *testing.T) {
	one, other := nest.New(), nest.New()
	is(t, "Add(/a)", one.Add("/a"), api.OK)
	counts(t, other, 1)
	if other.Has("/a") {
		t.Error("what is added to one is in the other")
	}
	walk, _ := one.Walk("/")
	copied := made(t, walk)
	is(t, "Add(/a/b)", copied.Add("/a/b"), api.OK)
	is(t, "Drop(/a)", one.Drop("/a"), api.OK)
	counts(t, one, 1)
	counts(t, copied, 3)
	isTree(t, copied)
}
