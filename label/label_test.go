package label_test

import (
	"math/rand/v2"
	"regexp"
	"slices"
	"strings"
	"testing"

	"bursar/api"
	"bursar/label"
)

const nameForm = `[a-z0-9](?:[a-z0-9-]{0,30}[a-z0-9])?`

var (
	nameText = regexp.MustCompile(`\A` + nameForm + `\z`)
	pathText = regexp.MustCompile(`\A(?:/|(?:/` + nameForm + `){1,8})\z`)
)

func isName(s string) bool { return nameText.MatchString(s) }

func isPath(s string) bool { return len(s) <= 64 && pathText.MatchString(s) }

// namesOf are a path's names, as the chapter tells them.
func namesOf(path string) []string {
	if path == "/" {
		return nil
	}
	return strings.Split(path, "/")[1:]
}

func pathOf(names []string) string { return "/" + strings.Join(names, "/") }

// letters has what stands in names and paths, twice the usual, and what does not.
var letters = strings.Split("a a a b z 0 9 - / / / A . _ ` { : \x00 \xff \x80 é ～", " ")

// texts gives every text of up to four of a few letters, then texts at random around the limits of length.
func texts(each func(s string)) {
	few := []string{"a", "0", "-", "/", "A", "\xff"}
	var grow func(s string, left int)
	grow = func(s string, left int) {
		each(s)
		if left > 0 {
			for _, x := range few {
				grow(s+x, left-1)
			}
		}
	}
	grow("", 4)
	random := rand.New(rand.NewPCG(1, 2))
	for range 20000 {
		var s strings.Builder
		for range random.IntN(10) {
			s.WriteString(letters[random.IntN(len(letters))])
		}
		each(s.String())
	}
}

// randomNames gives names, most of them short, some as long as may be.
func randomNames(random *rand.Rand, most int) []string {
	names := make([]string, random.IntN(most+1))
	for i := range names {
		n := 1 + random.IntN(2)
		if random.IntN(4) == 0 {
			n = 1 + random.IntN(32)
		}
		name := make([]byte, n)
		for k := range name {
			name[k] = "ab09-"[random.IntN(5)]
		}
		for _, k := range []int{0, n - 1} {
			if name[k] == '-' {
				name[k] = 'x'
			}
		}
		names[i] = string(name)
	}
	return names
}

func randomPath(random *rand.Rand) string {
	for {
		if path := pathOf(randomNames(random, 8)); len(path) <= 64 {
			return path
		}
	}
}

func sameTexts(t *testing.T, what string, got []string, errno api.Errno, want []string, wantErrno api.Errno) {
	t.Helper()
	if errno != wantErrno || !slices.Equal(got, want) {
		t.Errorf("%s = %q, %d, want %q, %d", what, got, errno, want, wantErrno)
	}
}

func sameText(t *testing.T, what string, got string, errno api.Errno, want string, wantErrno api.Errno) {
	t.Helper()
	if errno != wantErrno || got != want {
		t.Errorf("%s = %q, %d, want %q, %d", what, got, errno, want, wantErrno)
	}
}

// P4.1: the chapter's examples of names, and each byte at each place.
func TestName(t *testing.T) {
	x := strings.Repeat("x", 32)
	for _, s := range []string{"a", "0-9", x, "a--b", "z", "9", x[:31]} {
		if !label.Name(s) {
			t.Errorf("Name(%q) = false", s)
		}
	}
	for _, s := range []string{"", "-a", "a-", "-", "--", "A", "a.b", x + "x", x[:31] + "-", "-" + x[:31], strings.Repeat("x", 1<<20), "a/b", "é", "aé", "éa", "a\x00"} {
		if label.Name(s) {
			t.Errorf("Name(%q) = true", s)
		}
	}
	for b := range 256 {
		one := string([]byte{byte(b)})
		for _, s := range []string{one, one + "a", "a" + one, "a" + one + "a", x[:30] + one + "a", x[:31] + one} {
			if got := label.Name(s); got != isName(s) {
				t.Errorf("Name(%q) = %v", s, got)
			}
		}
	}
}

// P4.1: names and paths are just what the chapter's words say, at any text.
func TestNamesAndPathsOfAnyText(t *testing.T) {
	texts(func(s string) {
		if got := label.Name(s); got != isName(s) {
			t.Fatalf("Name(%q) = %v", s, got)
		}
		want, names := api.ErrPath, []string(nil)
		if isPath(s) {
			want, names = api.OK, namesOf(s)
		}
		if errno := label.Path(s); errno != want {
			t.Fatalf("Path(%q) = %d, want %d", s, errno, want)
		}
		got, errno := label.Split(s)
		sameTexts(t, "Split("+s+")", got, errno, names, want)
		line, errno := label.Line(s)
		if errno != want || want != api.OK && len(line) > 0 {
			t.Fatalf("Line(%q) = %q, %d", s, line, errno)
		}
		if above, errno := label.Parent(s); want != api.OK && (above != "" || errno != want) {
			t.Fatalf("Parent(%q) = %q, %d", s, above, errno)
		}
	})
}

// P4.1: the chapter's examples of paths, and their limits.
func TestPath(t *testing.T) {
	x := strings.Repeat("x", 32)
	for _, s := range []string{"/", "/a/b-1", "/a/b/c/d/e/f/g/h", "/" + x, "/" + x + "/" + x[:30]} {
		if errno := label.Path(s); errno != api.OK {
			t.Errorf("Path(%q) = %d", s, errno)
		}
	}
	for _, s := range []string{"", "a", "//", "/a/", "/a//b", "/A", "a/b", "/a/b/c/d/e/f/g/h/i", "/" + x + "/" + x, "/" + x + "/" + x[:31], "/" + x + "x", strings.Repeat("/", 1<<20), strings.Repeat("/a", 1<<20)} {
		if errno := label.Path(s); errno != api.ErrPath {
			t.Errorf("Path(%.80q) = %d", s, errno)
		}
		if names, errno := label.Split(s); len(names) > 0 || errno != api.ErrPath {
			t.Errorf("Split(%.80q) = %q, %d", s, names, errno)
		}
	}
	names, errno := label.Split("/")
	sameTexts(t, "Split of the root", names, errno, nil, api.OK)
	names, errno = label.Split("/a/b")
	sameTexts(t, "Split(/a/b)", names, errno, []string{"a", "b"}, api.OK)
}

// P4.1: Join and in which order it refuses.
func TestJoin(t *testing.T) {
	x := strings.Repeat("x", 32)
	nine := strings.Split("a b c d e f g h i", " ")
	for _, c := range []struct {
		names []string
		path  string
		errno api.Errno
	}{
		{nil, "/", api.OK},
		{[]string{}, "/", api.OK},
		{[]string{"a", "b"}, "/a/b", api.OK},
		{nine[:8], "/a/b/c/d/e/f/g/h", api.OK},
		{[]string{x, x[:30]}, "/" + x + "/" + x[:30], api.OK},
		{[]string{"a", ""}, "", api.ErrName},
		{[]string{""}, "", api.ErrName},
		{[]string{"a/b"}, "", api.ErrName},
		{[]string{"/"}, "", api.ErrName},
		{[]string{x + "x"}, "", api.ErrName},
		{nine, "", api.ErrPath},
		{[]string{x, x[:31]}, "", api.ErrPath},
		{append(slices.Clone(nine[:8]), "A"), "", api.ErrName},
		{[]string{x, x, "-"}, "", api.ErrName},
		{slices.Repeat([]string{"a"}, 100000), "", api.ErrPath},
	} {
		path, errno := label.Join(c.names...)
		sameText(t, "Join of "+strings.Join(c.names[:min(9, len(c.names))], " "), path, errno, c.path, c.errno)
	}
}

// P4.1: the chapter's examples of Parent, Line and Under.
func TestAboveAndBelow(t *testing.T) {
	for _, c := range []struct {
		path, above string
		errno       api.Errno
	}{{"/a/b", "/a", api.OK}, {"/a", "/", api.OK}, {"/a/b/c", "/a/b", api.OK}, {"/", "", api.ErrRoot}, {"x", "", api.ErrPath}, {"", "", api.ErrPath}, {"/a/", "", api.ErrPath}} {
		above, errno := label.Parent(c.path)
		sameText(t, "Parent("+c.path+")", above, errno, c.above, c.errno)
	}
	for path, want := range map[string][]string{"/": {"/"}, "/a": {"/a", "/"}, "/a/b": {"/a/b", "/a", "/"}} {
		line, errno := label.Line(path)
		sameTexts(t, "Line("+path+")", line, errno, want, api.OK)
	}
	line, errno := label.Line("/a/")
	sameTexts(t, "Line(/a/)", line, errno, nil, api.ErrPath)
	for _, c := range []struct {
		path, top string
		want      bool
	}{
		{"/a/b", "/a", true}, {"/a", "/a", true}, {"/a", "/", true}, {"/", "/", true}, {"/a/b/c", "/a", true},
		{"/ab", "/a", false}, {"/a", "/a/b", false}, {"/", "/a", false}, {"/b/a", "/a", false}, {"/a/bc", "/a/b", false},
		{"x", "/", false}, {"/a", "", false}, {"", "", false}, {"x", "x", false}, {"/a/b", "/a/", false}, {"/a/B", "/a", false}, {"/a/", "/a", false},
	} {
		if got := label.Under(c.path, c.top); got != c.want {
			t.Errorf("Under(%q, %q) = %v", c.path, c.top, got)
		}
	}
}

// P4.2: Split and Join turn each other back; Line goes on with the Parent's.
func TestPathsThereAndBack(t *testing.T) {
	random := rand.New(rand.NewPCG(1, 2))
	for range 5000 {
		names := randomNames(random, 9)
		path, errno := label.Join(names...)
		if want := pathOf(names); len(names) > 8 || len(want) > 64 {
			sameText(t, "Join", path, errno, "", api.ErrPath)
			continue
		} else {
			sameText(t, "Join", path, errno, want, api.OK)
		}
		split, errno := label.Split(path)
		sameTexts(t, "Split("+path+")", split, errno, names, api.OK)
		again, errno := label.Join(split...)
		sameText(t, "Join of Split", again, errno, path, api.OK)

		line, errno := label.Line(path)
		above, noParent := label.Parent(path)
		if path == "/" {
			sameTexts(t, "Line(/)", line, errno, []string{"/"}, api.OK)
			sameText(t, "Parent(/)", above, noParent, "", api.ErrRoot)
			continue
		}
		sameText(t, "Parent("+path+")", above, noParent, pathOf(names[:len(names)-1]), api.OK)
		rest, _ := label.Line(above)
		sameTexts(t, "Line("+path+")", line, errno, append([]string{path}, rest...), api.OK)
	}
}

// P4.2: Under(p, t) is whether t stands in Line(p).
func TestUnderIsInLine(t *testing.T) {
	random := rand.New(rand.NewPCG(1, 2))
	var below int
	for range 5000 {
		path := randomPath(random)
		line, _ := label.Line(path)
		tops := append([]string{randomPath(random), path + "a", path + "/a", path[:len(path)-1], path[1:], ""}, line...)
		for _, top := range tops {
			got, want := label.Under(path, top), slices.Contains(line, top)
			if got != want {
				t.Fatalf("Under(%q, %q) = %v", path, top, got)
			}
			if got {
				below++
			}
		}
	}
	if below == 0 {
		t.Error("no path lay below another")
	}
}

func isValue(s string) bool { return s == "" || isName(s) }

// areLabels is Valid as the chapter tells it.
func areLabels(l []api.Label) bool {
	for i, x := range l {
		if !isName(x.Key) || !isValue(x.Value) || i > 0 && l[i-1].Key >= x.Key {
			return false
		}
	}
	return len(l) <= 16
}

// labelsOf reads labels as "a=1 b=".
func labelsOf(text string) []api.Label {
	var l []api.Label
	for _, x := range strings.Fields(text) {
		key, value, _ := strings.Cut(x, "=")
		l = append(l, api.Label{Key: key, Value: value})
	}
	return l
}

// P4.1: the chapter's examples of labels, and their limits.
func TestValid(t *testing.T) {
	many := labelsOf("a=1 b=2 c= d=4 e=5 f=6 g=7 h=8 i=9 j=10 k=11 l=12 m=13 n=14 o=15 p=16 q=17")
	x := strings.Repeat("x", 32)
	for _, l := range [][]api.Label{nil, {}, labelsOf("a=1 b="), labelsOf("a= a-b= aa= b="), many[:16], {{Key: x, Value: x}}, labelsOf("0=0 a=1")} {
		if errno := label.Valid(l); errno != api.OK {
			t.Errorf("Valid(%v) = %d", l, errno)
		}
	}
	for _, l := range [][]api.Label{
		labelsOf("b=1 a=1"), labelsOf("a=1 a=2"), labelsOf("a=1 a=1"), labelsOf("a=B"), labelsOf("=1"), many,
		{{}}, {{Key: "A", Value: "1"}}, {{Key: x + "x", Value: "1"}}, {{Key: "a", Value: x + "x"}}, {{Key: "a", Value: "-"}}, {{Key: "a-", Value: "b"}},
		labelsOf("a=1 b=1 c=1 b=2"), labelsOf("a=1 0=1"), labelsOf("aa=1 a-b=1"), slices.Repeat(labelsOf("a=1"), 100000),
	} {
		if errno := label.Valid(l); errno != api.ErrLabel {
			t.Errorf("Valid(%v) = %d", l[:min(len(l), 17)], errno)
		}
	}
}

// P4.1: labels are valid just as the chapter's words say.
func TestValidOfAnyLabels(t *testing.T) {
	random := rand.New(rand.NewPCG(1, 2))
	keys := []string{"a", "a", "b", "c", "d", "a-b", "0", "", "A"}
	var valid int
	for range 20000 {
		l := randomLabels(random, keys, random.IntN(5))
		want := api.ErrLabel
		if areLabels(l) {
			want = api.OK
			valid++
		}
		if errno := label.Valid(l); errno != want {
			t.Fatalf("Valid(%v) = %d, want %d", l, errno, want)
		}
	}
	if valid == 0 {
		t.Error("no labels were valid")
	}
}

// randomLabels gives labels in order, but now and then.
func randomLabels(random *rand.Rand, keys []string, n int) []api.Label {
	var l []api.Label
	for range n {
		l = append(l, api.Label{Key: keys[random.IntN(len(keys))], Value: []string{"", "x", "y", "z", "X"}[min(random.IntN(30), 24)/6]})
	}
	if random.IntN(4) > 0 {
		slices.SortFunc(l, func(a, b api.Label) int { return strings.Compare(a.Key, b.Key) })
		l = slices.CompactFunc(l, func(a, b api.Label) bool { return a.Key == b.Key })
	}
	return l
}

// P4.1: answered lists are new memory; what is handed in is left as it was, its spare room too.
func TestPathsShareNothing(t *testing.T) {
	for _, call := range []func(string) ([]string, api.Errno){label.Split, label.Line} {
		first, _ := call("/a/b")
		want := slices.Clone(first)
		clear(first[:cap(first)])
		second, _ := call("/a/b")
		if !slices.Equal(second, want) {
			t.Errorf("a second answer is %q, want %q", second, want)
		}
	}
	room := []string{"a", "b", "c", "d"}
	if path, errno := label.Join(room[:2]...); path != "/a/b" || errno != api.OK {
		t.Errorf("Join = %q, %d", path, errno)
	}
	if !slices.Equal(room, []string{"a", "b", "c", "d"}) {
		t.Errorf("Join changed what it was handed: %q", room)
	}
	labels := labelsOf("a=1 b=2 c=3")
	label.Valid(labels[:2])
	if !slices.Equal(labels, labelsOf("a=1 b=2 c=3")) {
		t.Errorf("Valid changed what it was handed: %v", labels)
	}
}
