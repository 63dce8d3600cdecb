package watch_test

import (
	"fmt"
	"maps"
	"math"
	"math/rand/v2"
	"regexp"
	"slices"
	"strings"
	"testing"

	"bursar/api"
	"bursar/watch"
)

// What follows is the chapter's words over again, by other means: names and paths by patterns, a hub as all that was ever pushed, its window and each answer counted out anew.

const nameForm = `[a-z0-9](?:[a-z0-9-]{0,30}[a-z0-9])?`

var (
	nameText = regexp.MustCompile(`\A` + nameForm + `\z`)
	pathText = regexp.MustCompile(`\A(?:/|(?:/` + nameForm + `){1,8})\z`)
)

func isPath(s string) bool { return len(s) <= 64 && pathText.MatchString(s) }

func namesOf(path string) []string {
	return strings.FieldsFunc(path, func(letter rune) bool { return letter == '/' })
}

// liesIn: of what is no path nothing lies in anything, nor anything in it.
func liesIn(path, top string) bool {
	if !isPath(path) || !isPath(top) {
		return false
	}
	names, head := namesOf(path), namesOf(top)
	return len(names) >= len(head) && slices.Equal(names[:len(head)], head)
}

func isRight(e api.Event) bool {
	named := nameText.MatchString(e.Name)
	switch e.Kind {
	case 0:
		named = e.Name == ""
	case 1, 2, 3, 4:
	default:
		return false
	}
	return named && isPath(e.Path)
}

// model: the events of each version that was ever pushed, the first of them behind the version start.
type model struct {
	start  int64
	pushed [][]api.Event
}

func modelOf(version int64) *model {
	switch {
	case version < 0:
		version = 0
	case version > 1<<60:
		version = 1 << 60
	}
	return &model{start: version}
}

func (m *model) high() int64 { return m.start + int64(len(m.pushed)) }

// above: the events of the versions above this one, which isn't below start.
func (m *model) above(version int64) [][]api.Event { return m.pushed[version-m.start:] }

// low: as far back as there are no more than 128 events.
func (m *model) low() int64 {
	low := m.high()
	for low > m.start && len(slices.Concat(m.above(low-1)...)) <= 128 {
		low--
	}
	return low
}

func (m *model) push(l []api.Event) api.Errno {
	wrong := func(e api.Event) bool { return !isRight(e) || e.Version != m.high()+1 }
	if m.high() == 1<<60 || len(l) == 0 || slices.ContainsFunc(l, wrong) {
		return api.ErrArg
	}
	if len(l) > 128 {
		return api.ErrLong
	}
	m.pushed = append(m.pushed, slices.Clone(l))
	return api.OK
}

func (m *model) since(version int64, path string, most int) ([]api.Event, int64, api.Errno) {
	if most < 1 || most > 100 {
		return nil, 0, api.ErrArg
	}
	if !isPath(path) {
		return nil, 0, api.ErrPath
	}
	if version < m.low() {
		return nil, 0, api.ErrGone
	}
	if version > m.high() {
		return nil, 0, api.ErrFuture
	}
	var told []api.Event
	for _, l := range m.above(version) {
		l = chosen(l, path)
		if len(told) > 0 && len(l) > 0 && len(told)+len(l) > most {
			return told, told[len(told)-1].Version, api.OK
		}
		told = append(told, l...)
	}
	return told, m.high(), api.OK
}

// chosen: those that lie in a path.
func chosen(l []api.Event, path string) []api.Event {
	return slices.DeleteFunc(slices.Clone(l), func(e api.Event) bool { return !liesIn(e.Path, path) })
}

// replayed: a text is there if the last event that speaks of it says so, or none speaks of it and it was named.
func replayed(kind int, path string, names []string, l []api.Event) []string {
	all := map[string]bool{}
	for _, name := range names {
		all[name] = true
	}
	for _, e := range chosen(l, path) {
		if e.Kind == kind {
			all[e.Path+"\x20"+e.Name] = !e.Gone
		}
	}
	maps.DeleteFunc(all, func(_ string, there bool) bool { return !there })
	return slices.Sorted(maps.Keys(all))
}

// ev is an event, as the chapter writes it: a mark "gone" or "-".
func ev(version int64, kind int, mark, path, name string) api.Event {
	return api.Event{Version: version, Kind: kind, Gone: mark == "gone", Path: path, Name: name}
}

// some: so many events of a version, each of a name of its own.
func some(version int64, n int) []api.Event {
	var l []api.Event
	for i := range n {
		l = append(l, ev(version, api.KindObject, "-", "/a", fmt.Sprint("n", i)))
	}
	return l
}

func push(t *testing.T, h *watch.Hub, want api.Errno, l ...api.Event) {
	t.Helper()
	if errno := h.Push(l); errno != want {
		t.Errorf("Push(%v) = %d, want %d", l, errno, want)
	}
}

// refused asks for a Push whose answer must be this refusal, and that it changes nothing.
func refused(t *testing.T, h *watch.Hub, want api.Errno, l ...api.Event) {
	t.Helper()
	was := told(h)
	push(t, h, want, l...)
	if told(h) != was {
		t.Errorf("Push(%v) has changed the hub", l)
	}
}

func spans(t *testing.T, h *watch.Hub, low, high int64) {
	t.Helper()
	if h.Low() != low || h.High() != high {
		t.Errorf("low %d, high %d, want %d, %d", h.Low(), h.High(), low, high)
	}
}

func since(t *testing.T, h *watch.Hub, version int64, path string, most int, want []api.Event, upTo int64) {
	t.Helper()
	answers(t, h, version, path, most, want, upTo, api.OK)
}

// sinceNot asks for a refusal.
func sinceNot(t *testing.T, h *watch.Hub, version int64, path string, most int, want api.Errno) {
	t.Helper()
	answers(t, h, version, path, most, nil, 0, want)
}

func answers(t *testing.T, h *watch.Hub, version int64, path string, most int, want []api.Event, upTo int64, wantErr api.Errno) {
	t.Helper()
	l, v, errno := h.Since(version, path, most)
	if !slices.Equal(l, want) || v != upTo || errno != wantErr {
		t.Errorf("Since(%d, %q, %d) = %v, %d, %d, want %v, %d, %d", version, path, most, l, v, errno, want, upTo, wantErr)
	}
}

func replay(t *testing.T, kind int, path string, names []string, l []api.Event, want ...string) {
	t.Helper()
	if got := watch.Replay(kind, path, names, l); !slices.Equal(got, want) {
		t.Errorf("Replay(%d, %q, %q, %v) = %q, want %q", kind, path, names, l, got, want)
	}
}

// pieces: what Since tells from a version on, each time from where it ended the last time, till that is high.
func pieces(t *testing.T, h *watch.Hub, version int64, path string, most int) [][]api.Event {
	t.Helper()
	var all [][]api.Event
	for range 1000 {
		l, next, errno := h.Since(version, path, most)
		if errno != api.OK {
			t.Fatalf("Since(%d, %q, %d) = %d", version, path, most, errno)
		}
		all = append(all, l)
		if next == h.High() {
			return all
		}
		if next <= version || next > h.High() {
			t.Fatalf("Since(%d, %q, %d) leads to %d, high is %d", version, path, most, next, h.High())
		}
		version = next
	}
	t.Fatalf("Since of %q never ends", path)
	return nil
}

// whole: what Since tells from a version on, in all.
func whole(t *testing.T, h *watch.Hub, version int64, path string) []api.Event {
	t.Helper()
	return slices.Concat(pieces(t, h, version, path, api.MaxPage)...)
}

// told is all that a hub tells, so that two can be held against each other.
func told(h *watch.Hub) string {
	var s strings.Builder
	fmt.Fprintln(&s, h.Low(), h.High())
	for version := h.Low() - 1; version <= h.High()+1; version++ {
		for _, path := range []string{"/", "/a", "/a/b", "/zz"} {
			for _, most := range []int{1, 7, 100} {
				l, next, errno := h.Since(version, path, most)
				fmt.Fprintln(&s, version, path, most, l, next, errno)
			}
		}
	}
	return s.String()
}

func source(n uint64) *rand.Rand { return rand.New(rand.NewPCG(22, n)) }

func pick[T any](r *rand.Rand, l ...T) T { return l[r.IntN(len(l))] }

func many(n int) string { return strings.Repeat("x", n) }

var (
	deep  = "/a/b/c/d/e/f/g/h"              // of 8 names
	long  = "/" + many(31) + "/" + many(31) // of 64 bytes
	paths = []string{"/", "/a", "/a/b", "/a/b/c", "/a-b", "/a-b/c", "/ab", "/a/b-c", "/b", deep, long}
)

// noPaths, noNames, noKinds: what is none, near to some that are.
var (
	noPaths = []string{"", "a", "//", "/a/", "//a", "/a//b", "/A", "/a b", " /a", "/a\x00", "/\xff", "/é", "/-a", "/a-", "/a.b", ".", "/..", "/a\n", deep + "/i", long + "z", "/" + many(33), strings.Repeat("/a", 4000)}
	noNames = []string{"", "-", "-a", "a-", "A", "a b", "a.b", "a/b", "/", "/a", " ", "a\x00", "\xff", "é", "a\n", many(33), many(1 << 16)}
	noKinds = []int{-1, 5, 6, 256, math.MinInt, math.MaxInt}
)

// anyEvent: a right one of few things, so that they meet.
func anyEvent(r *rand.Rand, version int64) api.Event {
	e := ev(version, r.IntN(5), pick(r, "-", "-", "gone"), pick(r, paths...), pick(r, "w", "a", "a-b", "0", many(32)))
	if e.Kind == api.KindNode {
		e.Name = ""
	}
	return e
}

// spoilt: an event that isn't right, or of another version.
func spoilt(r *rand.Rand, e api.Event) api.Event {
	switch r.IntN(4) {
	case 0:
		e.Path = pick(r, noPaths...)
	case 1:
		e.Name = pick(r, noNames[1:]...)
	case 2:
		e.Kind = pick(r, noKinds...)
	default:
		e.Version = pick(r, e.Version-1, e.Version+1, 0, -e.Version, math.MinInt64, math.MaxInt64)
	}
	return e
}

// anyPush: what a version may have, often few events, now and then very many.
func anyPush(r *rand.Rand, version int64) []api.Event {
	var l []api.Event
	for range pick(r, 1, 1, 1, 2, 3, 5, 20, 1+r.IntN(40), 100, 128) {
		l = append(l, anyEvent(r, version))
	}
	return l
}

// anyHub: one with a window of any shape.
func anyHub(t *testing.T, r *rand.Rand) *watch.Hub {
	t.Helper()
	h := watch.New(int64(r.IntN(1000)))
	for range r.IntN(60) {
		l := anyPush(r, h.High()+1)
		if len(l) > 40 && r.IntN(4) > 0 {
			l = l[:1+r.IntN(4)]
		}
		push(t, h, api.OK, l...)
	}
	return h
}
