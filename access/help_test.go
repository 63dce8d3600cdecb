package access_test

import (
	"cmp"
	"fmt"
	"math"
	"math/rand/v2"
	"regexp"
	"slices"
	"strings"
	"testing"

	"bursar/access"
	"bursar/api"
)

// What follows is the chapter's words over again, by other means: names and paths by patterns, a table as a plain list of bindings, each question asked of all of them.

const nameForm = `[a-z0-9](?:[a-z0-9-]{0,30}[a-z0-9])?`

var (
	nameText = regexp.MustCompile(`\A` + nameForm + `\z`)
	pathText = regexp.MustCompile(`\A(?:/|(?:/` + nameForm + `){1,8})\z`)
)

func isPath(s string) bool { return len(s) <= 64 && pathText.MatchString(s) }

func namesOf(path string) []string {
	return strings.FieldsFunc(path, func(letter rune) bool { return letter == '/' })
}

// atOrBelow expects two paths: whether the names of the one begin with those of the other.
func atOrBelow(path, top string) bool {
	names, head := namesOf(path), namesOf(top)
	return len(names) >= len(head) && slices.Equal(names[:len(head)], head)
}

func valid(b api.Binding) bool {
	return isPath(b.Path) && nameText.MatchString(b.Name) && nameText.MatchString(b.Subject) && slices.Contains([]int{0, 1, 2, 3}, b.Verb)
}

// included: the verbs that a verb includes.
func included(verb int) []int {
	return [][]int{{0}, {0, 1}, {0, 1, 2}, {0, 1, 2, 3}}[verb]
}

func gives(b api.Binding, subject string, verb int, path string) bool {
	return b.Subject == subject && slices.Contains(included(b.Verb), verb) && isPath(path) && atOrBelow(path, b.Path)
}

// model: the bindings of a table, in the order in which they came.
type model []api.Binding

func (m model) at(path, name string) int {
	return slices.IndexFunc(m, func(b api.Binding) bool { return b.Path == path && b.Name == name })
}

func (m model) chosen(keep func(api.Binding) bool) model {
	return slices.DeleteFunc(slices.Clone(m), func(b api.Binding) bool { return !keep(b) })
}

func (m model) held(path string) int {
	return len(m.chosen(func(b api.Binding) bool { return b.Path == path }))
}

func (m *model) set(b api.Binding) api.Errno {
	at := m.at(b.Path, b.Name)
	switch {
	case !valid(b):
		return api.ErrObject
	case at >= 0:
		(*m)[at] = b
	case m.held(b.Path) == 16:
		return api.ErrMany
	default:
		*m = append(*m, b)
	}
	return api.OK
}

func modelOf(l []api.Binding) (model, api.Errno) {
	var m model
	for _, b := range l {
		if valid(b) && m.at(b.Path, b.Name) >= 0 {
			return nil, api.ErrExists
		}
		if errno := m.set(b); errno != api.OK {
			return nil, errno
		}
	}
	return m, api.OK
}

func (m *model) drop(path, name string) api.Errno {
	at := m.at(path, name)
	switch {
	case !isPath(path):
		return api.ErrPath
	case at < 0:
		return api.ErrMissing
	}
	*m = slices.Delete(slices.Clone(*m), at, at+1)
	return api.OK
}

func (m *model) leave(path string) int {
	was := len(*m)
	*m = m.chosen(func(b api.Binding) bool { return b.Path != path })
	return was - len(*m)
}

func (m model) may(subject string, verb int, path string) bool {
	if subject == "root" {
		return slices.Contains([]int{0, 1, 2, 3}, verb) && isPath(path)
	}
	_, may := m.why(subject, verb, path)
	return may
}

func (m model) why(subject string, verb int, path string) (api.Binding, bool) {
	l := m.chosen(func(b api.Binding) bool { return gives(b, subject, verb, path) })
	if len(l) == 0 {
		return api.Binding{}, false
	}
	slices.SortFunc(l, func(a, b api.Binding) int {
		return cmp.Or(len(namesOf(b.Path))-len(namesOf(a.Path)), strings.Compare(a.Name, b.Name))
	})
	return l[0], true
}

func (m model) reach(subject string, verb int) []string {
	if subject == "root" && slices.Contains([]int{0, 1, 2, 3}, verb) {
		return []string{"/"}
	}
	l := m.chosen(func(b api.Binding) bool { return gives(b, subject, verb, b.Path) })
	var paths []string
	for _, b := range l.list() {
		below := slices.ContainsFunc(l, func(other api.Binding) bool { return other.Path != b.Path && atOrBelow(b.Path, other.Path) })
		if !below && !slices.Contains(paths, b.Path) {
			paths = append(paths, b.Path)
		}
	}
	return paths
}

func (m model) list() []api.Binding {
	l := slices.Clone(m)
	slices.SortFunc(l, func(a, b api.Binding) int {
		return cmp.Or(slices.Compare(namesOf(a.Path), namesOf(b.Path)), strings.Compare(a.Name, b.Name))
	})
	return l
}

// bind is a binding, as the chapter writes it.
func bind(path, name, subject string, verb int) api.Binding {
	return api.Binding{Path: path, Name: name, Subject: subject, Verb: verb}
}

// table: one with these bindings, each Set.
func table(t *testing.T, l ...api.Binding) *access.Table {
	t.Helper()
	x := access.New()
	for _, b := range l {
		is(t, fmt.Sprintf("Set(%v)", b), x.Set(b), api.OK)
	}
	return x
}

// made: one of these, by Of.
func made(t *testing.T, l []api.Binding) *access.Table {
	t.Helper()
	x, errno := access.Of(l)
	if x == nil || errno != api.OK {
		t.Fatalf("Of(%v) = %v, %d", l, x, errno)
	}
	return x
}

func is(t *testing.T, what string, errno, want api.Errno) {
	t.Helper()
	if errno != want {
		t.Errorf("%s = %d, want %d", what, errno, want)
	}
}

func may(t *testing.T, x *access.Table, subject string, verb int, path string, want bool) {
	t.Helper()
	if x.May(subject, verb, path) != want {
		t.Errorf("May(%q, %d, %q) = %v", subject, verb, path, !want)
	}
}

func why(t *testing.T, x *access.Table, subject string, verb int, path string, want api.Binding, wantIs bool) {
	t.Helper()
	if b, is := x.Why(subject, verb, path); b != want || is != wantIs {
		t.Errorf("Why(%q, %d, %q) = %v, %v, want %v, %v", subject, verb, path, b, is, want, wantIs)
	}
}

func reach(t *testing.T, x *access.Table, subject string, verb int, want ...string) {
	t.Helper()
	if l := x.Reach(subject, verb); !slices.Equal(l, want) {
		t.Errorf("Reach(%q, %d) = %q, want %q", subject, verb, l, want)
	}
}

func list(t *testing.T, x *access.Table, want ...api.Binding) {
	t.Helper()
	if l := x.List(); !slices.Equal(l, want) {
		t.Errorf("List = %v, want %v", l, want)
	}
}

func leave(t *testing.T, x *access.Table, path string, want int) {
	t.Helper()
	if n := x.Leave(path); n != want {
		t.Errorf("Leave(%q) = %d, want %d", path, n, want)
	}
}

// same holds all that a table tells against the model.
func same(t *testing.T, x *access.Table, m model) {
	t.Helper()
	list(t, x, m.list()...)
	for _, subject := range everySubject {
		for _, verb := range everyVerb {
			reach(t, x, subject, verb, m.reach(subject, verb)...)
			for _, path := range everyPath {
				may(t, x, subject, verb, path, m.may(subject, verb, path))
				b, is := m.why(subject, verb, path)
				why(t, x, subject, verb, path, b, is)
			}
		}
	}
}

// told is all that a table tells, so that two can be held against each other.
func told(x *access.Table) string {
	var s strings.Builder
	fmt.Fprintln(&s, x.List())
	for _, subject := range everySubject {
		for _, verb := range everyVerb {
			fmt.Fprintln(&s, subject, verb, x.Reach(subject, verb))
			for _, path := range everyPath {
				b, is := x.Why(subject, verb, path)
				fmt.Fprintln(&s, path, x.May(subject, verb, path), b, is)
			}
		}
	}
	return s.String()
}

// unchanged asks f, whose answer must be this refusal, and that it changes nothing.
func unchanged(t *testing.T, what string, x *access.Table, want api.Errno, f func() api.Errno) {
	t.Helper()
	was := told(x)
	is(t, what, f(), want)
	if told(x) != was {
		t.Errorf("%s has changed the table", what)
	}
}

func source(n uint64) *rand.Rand { return rand.New(rand.NewPCG(21, n)) }

func pick[T any](r *rand.Rand, l ...T) T { return l[r.IntN(len(l))] }

func many(n int) string { return strings.Repeat("x", n) }

var (
	deep  = "/a/b/c/d/e/f/g/h"              // of 8 names
	long  = "/" + many(31) + "/" + many(31) // of 64 bytes
	paths = []string{"/", "/a", "/a/b", "/a/b/c", "/a-b", "/a-b/c", "/ab", "/a/b-c", "/a0", "/b", deep, long}
)

// noPaths and noNames: texts that are none, near to some that are.
var (
	noPaths = []string{"", "a", "//", "/a/", "//a", "/a//b", "/A", "/a b", " /a", "/a\x00", "/\xff", "/é", "/-a", "/a-", "/a.b", ".", "/..", "/a\n", deep + "/i", long + "z", "/" + many(33), strings.Repeat("/a", 4000)}
	noNames = []string{"", "-", "-a", "a-", "A", "a b", "a.b", "a/b", "/", "/a", " ", "a\x00", "\xff", "é", "a\n", many(33), many(1 << 16)}
)

// What tables are asked for over and over: those that may be there, and some that may not.
var (
	everySubject = []string{"ann", "bob", "root", "cy", "ro", "", "Ann", many(33)}
	everyVerb    = []int{-1, 0, 1, 2, 3, 4, math.MinInt, math.MaxInt}
	everyPath    = append([]string{"/a/x", "/a/b/c/d", "/a-b/c/d", "/z", "", "a", "/a/", "//a", "/a/B", deep + "/i", long + "z"}, paths...)
)

// anyBinding: one of few, so that they meet; wild: now and then one that isn't valid.
func anyBinding(r *rand.Rand, wild bool) api.Binding {
	b := bind(pick(r, paths...), pick(r, "w", "a", "a-b", "ab", "0", "z", many(32)), pick(r, "ann", "ann", "bob", "root", "cy"), r.IntN(4))
	if wild && r.IntN(5) == 0 {
		switch r.IntN(4) {
		case 0:
			b.Path = pick(r, noPaths...)
		case 1:
			b.Name = pick(r, noNames...)
		case 2:
			b.Subject = pick(r, noNames...)
		default:
			b.Verb = pick(r, -1, 4, 256, math.MinInt, math.MaxInt)
		}
	}
	return b
}

// full: as many at a path as may be.
func full(path, subject string, verb int) []api.Binding {
	var l []api.Binding
	for i := range api.MaxHeld {
		l = append(l, bind(path, fmt.Sprint("n", i), subject, verb))
	}
	return l
}
