package nest_test

import (
	"fmt"
	"math/rand/v2"
	"regexp"
	"slices"
	"strings"
	"testing"

	"bursar/api"
	"bursar/nest"
)

// What follows is the chapter's words over again, by other means: a set of paths, and everything else asked of the set.

const nameForm = `[a-z0-9](?:[a-z0-9-]{0,30}[a-z0-9])?`

var pathText = regexp.MustCompile(`\A(?:/|(?:/` + nameForm + `){1,8})\z`)

func isPath(s string) bool { return len(s) <= 64 && pathText.MatchString(s) }

func namesOf(path string) []string {
	return strings.FieldsFunc(path, func(r rune) bool { return r == '/' })
}

func pathOf(names []string) string { return "/" + strings.Join(names, "/") }

func above(path string) string {
	names := namesOf(path)
	return pathOf(names[:len(names)-1])
}

func lineOf(path string) []string {
	line := []string{path}
	for path != "/" {
		path = above(path)
		line = append(line, path)
	}
	return line
}

// ahead tells the order of two lists of names, name by name.
func ahead(a, b []string) int {
	for i := range min(len(a), len(b)) {
		if order := strings.Compare(a[i], b[i]); order != 0 {
			return order
		}
	}
	return len(a) - len(b)
}

// model: the paths of a nest.
type model map[string]bool

func (m model) chosen(keep func(path string) bool) []string {
	var l []string
	for path := range m {
		if keep(path) {
			l = append(l, path)
		}
	}
	slices.SortFunc(l, func(a, b string) int { return ahead(namesOf(a), namesOf(b)) })
	return l
}

func (m model) fault(paths ...string) api.Errno {
	if slices.ContainsFunc(paths, func(path string) bool { return !isPath(path) }) {
		return api.ErrPath
	}
	if slices.ContainsFunc(paths, func(path string) bool { return !m[path] }) {
		return api.ErrNoNode
	}
	return api.OK
}

func (m model) children(path string) ([]string, api.Errno) {
	if errno := m.fault(path); errno != api.OK {
		return nil, errno
	}
	return m.chosen(func(one string) bool { return one != "/" && above(one) == path }), api.OK
}

func (m model) walk(path string) ([]string, api.Errno) {
	if errno := m.fault(path); errno != api.OK {
		return nil, errno
	}
	return m.chosen(func(one string) bool { return slices.Contains(lineOf(one), path) }), api.OK
}

func (m model) line(path string) ([]string, api.Errno) {
	if errno := m.fault(path); errno != api.OK {
		return nil, errno
	}
	return lineOf(path), api.OK
}

func (m model) common(a, b string) (string, api.Errno) {
	if errno := m.fault(a, b); errno != api.OK {
		return "", errno
	}
	both := m.chosen(func(one string) bool { return slices.Contains(lineOf(a), one) && slices.Contains(lineOf(b), one) })
	return both[len(both)-1], api.OK
}

func (m model) add(path string) api.Errno {
	switch {
	case !isPath(path):
		return api.ErrPath
	case m[path]:
		return api.ErrNode
	case !m[above(path)]:
		return api.ErrNoNode
	}
	m[path] = true
	return api.OK
}

func (m model) drop(path string) api.Errno {
	switch children, errno := m.children(path); {
	case path == "/":
		return api.ErrRoot
	case errno != api.OK:
		return errno
	case len(children) > 0:
		return api.ErrChildren
	}
	delete(m, path)
	return api.OK
}

func modelOf(paths []string) (model, api.Errno) {
	m := model{"/": true}
	seen := map[string]int{}
	for _, path := range paths {
		m[path] = true
		seen[path]++
	}
	fault := api.OK
	for path, times := range seen {
		switch {
		case !isPath(path):
			return nil, api.ErrPath
		case times > 1:
			fault = api.ErrNode
		case path != "/" && !m[above(path)] && fault == api.OK:
			fault = api.ErrNoNode
		}
	}
	if fault != api.OK {
		return nil, fault
	}
	return m, api.OK
}

func source(n uint64) *rand.Rand { return rand.New(rand.NewPCG(14, n)) }

func pick[T any](r *rand.Rand, l ...T) T { return l[r.IntN(len(l))] }

func long(n int) string { return strings.Repeat("x", n) }

// noPaths: texts that are none, near to some that are.
var noPaths = []string{
	"", "a", "//", "/a/", "//a", "/a//b", "/A", "/a b", " /a", "/a ", "/a\x00", "/\xff", "/é", "/-a", "/a-", "/a.b", "/_", "/*", "a/b", ".", "/.", "/..", "\\", "/a\n",
	"/" + long(33), "/" + long(32) + "/" + long(31), "/a/b/c/d/e/f/g/h/i", strings.Repeat("/a", 4000), "/" + long(1<<16),
}

func anyPath(r *rand.Rand) string {
	if r.IntN(20) == 0 {
		return pick(r, noPaths...)
	}
	var names []string
	for range pick(r, 0, 1, 1, 2, 2, 2, 3, 3, 4, 8) {
		names = append(names, pick(r, "a", "b", "a-b", "a0", "0"))
	}
	return pathOf(names)
}

func tells(t *testing.T, what string, l []string, errno api.Errno, want []string, wantErrno api.Errno) {
	t.Helper()
	if !slices.Equal(l, want) || errno != wantErrno {
		t.Errorf("%s = %v, %d, want %v, %d", what, l, errno, want, wantErrno)
	}
}

func is(t *testing.T, what string, errno, want api.Errno) {
	t.Helper()
	if errno != want {
		t.Errorf("%s = %d, want %d", what, errno, want)
	}
}

// asked holds all that a nest tells of a path against the model.
func asked(t *testing.T, n *nest.Nest, m model, path string) {
	t.Helper()
	if n.Has(path) != m[path] {
		t.Errorf("Has(%q) = %t", path, n.Has(path))
	}
	l, errno := n.Children(path)
	want, wantErrno := m.children(path)
	tells(t, "Children("+path+")", l, errno, want, wantErrno)
	l, errno = n.Walk(path)
	want, wantErrno = m.walk(path)
	tells(t, "Walk("+path+")", l, errno, want, wantErrno)
	l, errno = n.Line(path)
	want, wantErrno = m.line(path)
	tells(t, "Line("+path+")", l, errno, want, wantErrno)
}

func askedCommon(t *testing.T, n *nest.Nest, m model, a, b string) {
	t.Helper()
	s, errno := n.Common(a, b)
	if want, wantErrno := m.common(a, b); s != want || errno != wantErrno {
		t.Errorf("Common(%q, %q) = %q, %d, want %q, %d", a, b, s, errno, want, wantErrno)
	}
}

// agrees holds a whole nest against the model.
func agrees(t *testing.T, n *nest.Nest, m model) {
	t.Helper()
	if n == nil {
		t.Fatalf("no nest of %v", m)
	}
	if n.Count() != len(m) {
		t.Errorf("Count = %d, want %d", n.Count(), len(m))
	}
	for path := range m {
		asked(t, n, m, path)
	}
}

// all is all that a nest tells, as a text, so that two can be held against each other.
func all(n *nest.Nest) string {
	var s strings.Builder
	paths, errno := n.Walk("/")
	fmt.Fprint(&s, n.Count(), paths, errno)
	for _, path := range paths {
		children, errno := n.Children(path)
		line, lineErrno := n.Line(path)
		fmt.Fprint(&s, path, n.Has(path), children, errno, line, lineErrno)
	}
	return s.String()
}

func grown(t *testing.T, paths ...string) *nest.Nest {
	t.Helper()
	n := nest.New()
	for _, path := range paths {
		is(t, "Add("+path+")", n.Add(path), api.OK)
	}
	return n
}

func made(t *testing.T, paths []string) *nest.Nest {
	t.Helper()
	n, errno := nest.Of(paths)
	if n == nil || errno != api.OK {
		t.Fatalf("Of(%v) = %v, %d", paths, n, errno)
	}
	return n
}
