package object_test

import (
	"maps"
	"math"
	"math/rand/v2"
	"slices"
	"strings"
	"testing"

	"bursar/api"
	"bursar/key"
	"bursar/object"
)

const letters = "nqlob"

func wantKey(kind int, path, name string) (string, api.Errno) {
	if kind < 0 || kind > 4 {
		return "", api.ErrArg
	}
	if !isPath(path) {
		return "", api.ErrPath
	}
	if kind == 0 && name != "" || kind != 0 && !isName(name) {
		return "", api.ErrName
	}
	return letters[kind:kind+1] + "\x00\x01" + path + "\x00\x01" + name + "\x00\x01", api.OK
}

func checkKey(t *testing.T, kind int, path, name string) string {
	t.Helper()
	want, wantErrno := wantKey(kind, path, name)
	k, errno := object.Key(kind, path, name)
	if k != want || errno != wantErrno {
		t.Fatalf("Key(%d, %q, %q) = %q, %d, want %q, %d", kind, path, name, k, errno, want, wantErrno)
	}
	if errno == api.OK {
		a, b, c, errno := object.Unkey(k)
		if a != kind || b != path || c != name || errno != api.OK {
			t.Fatalf("Unkey(%q) = %d, %q, %q, %d", k, a, b, c, errno)
		}
	}
	return k
}

func TestKeyExamples(t *testing.T) {
	for _, c := range []struct {
		kind             int
		path, name, want string
		errno            api.Errno
	}{
		{3, "/a", "x", "o\x00\x01/a\x00\x01x\x00\x01", api.OK},
		{0, "/a", "", "n\x00\x01/a\x00\x01\x00\x01", api.OK},
		{0, "/", "", "n\x00\x01/\x00\x01\x00\x01", api.OK},
		{0, "/a", "x", "", api.ErrName},
		{3, "/a", "", "", api.ErrName},
		{5, "", "", "", api.ErrArg},
		{3, "a", "", "", api.ErrPath},
		{0, "a", "x", "", api.ErrPath},
		{-1, "/a", "x", "", api.ErrArg},
	} {
		if k, errno := object.Key(c.kind, c.path, c.name); k != c.want || errno != c.errno {
			t.Errorf("Key(%d, %q, %q) = %q, %d", c.kind, c.path, c.name, k, errno)
		}
	}
	made := func(parts ...string) string {
		k, errno := key.Make(parts...)
		if errno != api.OK {
			t.Fatalf("Make(%q): %d", parts, errno)
		}
		return k
	}
	for _, k := range []string{
		"", "o", made("o"), made("o", "/a"), made("x", "/a", "x"), made("o", "/A", "x"), made("o", "/a", "X"), made("o", "/a", ""), made("n", "/a", "x"),
		made("o", "/a", "x", ""), made("", "/a", ""), made("nq", "/a", ""), made("ob", "/a", "x"), made("O", "/a", "x"), made("o", "", "x"), made("o", "/a", "x") + "o",
		made("", "/a", "x"), made("lo", "/a", "x"), made("nqlob", "/a", ""), strings.Repeat("o", 200),
	} {
		if kind, path, name, errno := object.Unkey(k); kind != 0 || path != "" || name != "" || errno != api.ErrBad {
			t.Errorf("Unkey(%q) = %d, %q, %q, %d", k, kind, path, name, errno)
		}
	}
}

func TestAnyKeys(t *testing.T) {
	texts := []string{"", "a", "b", "x", "X", "/", "/a", "/a/b", "/A", "a/b", "//", "-", "\x00", "\x01", "\xff", long(32), long(33), "/" + long(32), "/" + long(32) + "/" + long(30), "/" + long(32) + "/" + long(31)}
	for _, kind := range []int{math.MinInt, -1, 0, 1, 2, 3, 4, 5, 6, 256, math.MaxInt} {
		for _, path := range texts {
			for _, name := range texts {
				checkKey(t, kind, path, name)
			}
		}
	}
}

// Every byte of some keys is set to every value, dropped and put in: Unkey takes just keys.
func TestTextsNearKeys(t *testing.T) {
	for kind := range 5 {
		name := "x-1"
		if kind == 0 {
			name = ""
		}
		k := checkKey(t, kind, "/a/b", name)
		for at := range len(k) {
			checkUnkey(t, k[:at])
			checkUnkey(t, k[:at]+k[at+1:])
			for v := range 256 {
				checkUnkey(t, k[:at]+string([]byte{byte(v)})+k[at+1:])
				checkUnkey(t, k[:at]+string([]byte{byte(v)})+k[at:])
			}
		}
	}
}

// checkUnkey: what is taken gives the text again; what isn't has no kind, path and name that would.
func checkUnkey(t *testing.T, k string) {
	t.Helper()
	kind, path, name, errno := object.Unkey(k)
	pieces := strings.Split(k, "\x00\x01")
	wantKind, want, wantErrno := 0, "", api.ErrBad
	if len(pieces) == 4 && len(pieces[0]) == 1 {
		wantKind = strings.Index(letters, pieces[0])
		want, wantErrno = wantKey(wantKind, pieces[1], pieces[2])
	}
	if wantErrno != api.OK || want != k {
		if kind != 0 || path != "" || name != "" || errno != api.ErrBad {
			t.Fatalf("Unkey(%q) = %d, %q, %q, %d", k, kind, path, name, errno)
		}
		return
	}
	if kind != wantKind || path != pieces[1] || name != pieces[2] || errno != api.OK {
		t.Fatalf("Unkey(%q) = %d, %q, %q, %d", k, kind, path, name, errno)
	}
}

type place struct {
	kind       int
	path, name string
}

func anyPlace(r *rand.Rand) place {
	p := place{kind: r.IntN(5), path: pick(r, anyPath(r), "/a/b", "/a-b", "/a0", "/b"), name: anyName(r)}
	if p.kind == 0 {
		p.name = ""
	}
	return p
}

// Keys of one kind, and of one kind and path, are just those in key.Range of them; so they lie side by side.
func TestKeysLieTogether(t *testing.T) {
	r := source(4)
	keys := map[string]place{}
	for range 2000 {
		p := anyPlace(r)
		k := checkKey(t, p.kind, p.path, p.name)
		if was, there := keys[k]; there && was != p {
			t.Fatalf("%+v and %+v have the key %q", was, p, k)
		}
		keys[k] = p
	}
	for kind := range 5 {
		letter := letters[kind : kind+1]
		checkRange(t, keys, func(p place) bool { return p.kind == kind }, letter)
		for _, path := range []string{"/", "/a", "/ab", "/a/b", "/a-b", "/b", "/c"} {
			checkRange(t, keys, func(p place) bool { return p.kind == kind && p.path == path }, letter, path)
		}
	}
	if len(keys) < 100 {
		t.Errorf("%d keys", len(keys))
	}
}

func checkRange(t *testing.T, keys map[string]place, in func(place) bool, parts ...string) {
	t.Helper()
	from, to, errno := key.Range(parts...)
	if errno != api.OK {
		t.Fatalf("Range(%q): %d", parts, errno)
	}
	var inside []int
	for i, k := range slices.Sorted(maps.Keys(keys)) {
		lies := from <= k && k < to
		if lies != in(keys[k]) {
			t.Fatalf("%+v lies in Range(%q): %v", keys[k], parts, lies)
		}
		if lies {
			inside = append(inside, i)
		}
	}
	if n := len(inside); n > 0 && inside[n-1]-inside[0] != n-1 {
		t.Fatalf("Range(%q): not side by side: %v", parts, inside)
	}
}
