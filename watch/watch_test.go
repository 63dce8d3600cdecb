package watch_test

import (
	"fmt"
	"math"
	"slices"
	"strings"
	"testing"

	"bursar/api"
	"bursar/watch"
)

// P22.1: the chapter's example 1.
func TestExampleNew(t *testing.T) {
	h := watch.New(5)
	spans(t, h, 5, 5)
	since(t, h, 5, "/", 1, nil, 5)
	sinceNot(t, h, 4, "/", 1, api.ErrGone)
	sinceNot(t, h, 6, "/", 1, api.ErrFuture)
	sinceNot(t, h, 5, "a", 1, api.ErrPath)
	sinceNot(t, h, 5, "/", 0, api.ErrArg)
	sinceNot(t, h, 5, "/", 101, api.ErrArg)
}

// P22.1, P22.3: the chapter's examples 2 and 3.
func TestExamplePushAndSince(t *testing.T) {
	h := watch.New(5)
	six := ev(6, 3, "-", "/a", "x")
	seven := []api.Event{ev(7, 3, "-", "/a", "y"), ev(7, 3, "gone", "/b", "z")}
	eight := ev(8, 0, "-", "/a", "")
	push(t, h, api.OK, six)
	push(t, h, api.OK, seven...)
	refused(t, h, api.ErrArg, seven...)
	refused(t, h, api.ErrArg)
	refused(t, h, api.ErrArg, ev(8, 3, "-", "/a", "X"))
	refused(t, h, api.ErrArg, ev(8, 0, "-", "/a", "n"))
	push(t, h, api.OK, eight)
	spans(t, h, 5, 8)

	since(t, h, 5, "/", 100, []api.Event{six, seven[0], seven[1], eight}, 8)
	since(t, h, 5, "/", 1, []api.Event{six}, 6)
	since(t, h, 6, "/", 1, seven, 7)
	since(t, h, 5, "/", 2, []api.Event{six}, 6)
	since(t, h, 5, "/b", 1, seven[1:], 8)
	since(t, h, 7, "/b", 1, nil, 8)
	since(t, h, 8, "/", 1, nil, 8)
}

// P22.2: the chapter's example 4.
func TestExampleWindow(t *testing.T) {
	h := watch.New(0)
	for version := range int64(128) {
		push(t, h, api.OK, some(version+1, 1)...)
	}
	spans(t, h, 0, 128)
	push(t, h, api.OK, some(129, 1)...)
	spans(t, h, 1, 129)
	sinceNot(t, h, 0, "/", 1, api.ErrGone)
	push(t, h, api.OK, some(130, 128)...)
	spans(t, h, 129, 130)
	refused(t, h, api.ErrLong, some(131, 129)...)
	since(t, h, 129, "/", 1, some(130, 128), 130)
}

// P22.1: the chapter's example 5.
func TestExampleReplay(t *testing.T) {
	l := []api.Event{ev(0, 3, "gone", "/a", "x"), ev(0, 3, "-", "/a/b", "z"), ev(0, 3, "-", "/c", "u"), ev(0, 1, "-", "/a", "q")}
	replay(t, 3, "/a", []string{"/a y", "/a x", "/a y"}, l, "/a y", "/a/b z")
}

// P22.1: New at the edges of what a version may be, and beyond them.
func TestNewAtAnyVersion(t *testing.T) {
	for version, want := range map[int64]int64{
		math.MinInt64: 0, -1: 0, 0: 0, 1: 1,
		api.MaxStamp - 1: api.MaxStamp - 1, api.MaxStamp: api.MaxStamp, api.MaxStamp + 1: api.MaxStamp, math.MaxInt64: api.MaxStamp,
	} {
		h := watch.New(version)
		spans(t, h, want, want)
		since(t, h, want, "/", 1, nil, want)
		sinceNot(t, h, want-1, "/", 1, api.ErrGone)
		sinceNot(t, h, want+1, "/", 1, api.ErrFuture)
	}
}

// P22.1, P22.2: the last version of all is taken, and none behind it.
func TestLastVersion(t *testing.T) {
	h := watch.New(api.MaxStamp - 1)
	push(t, h, api.OK, some(api.MaxStamp, 2)...)
	spans(t, h, api.MaxStamp-1, api.MaxStamp)
	for _, version := range []int64{api.MaxStamp + 1, api.MaxStamp, 0, math.MinInt64} {
		refused(t, h, api.ErrArg, some(version, 1)...)
		refused(t, h, api.ErrArg, some(version, 129)...)
	}
	since(t, h, api.MaxStamp-1, "/", 1, some(api.MaxStamp, 2), api.MaxStamp)
	refused(t, watch.New(math.MaxInt64), api.ErrArg, some(api.MaxStamp+1, 1)...)
}

// P22.1: each kind is right with a name, a namespace without one; at the root and at the edges of paths and names too.
func TestRightEvents(t *testing.T) {
	h := watch.New(0)
	for _, path := range paths {
		for kind := range 5 {
			for _, mark := range []string{"-", "gone"} {
				for _, name := range []string{"a", "0", "a-b", many(32)} {
					if kind == api.KindNode {
						name = ""
					}
					e := ev(h.High()+1, kind, mark, path, name)
					push(t, h, api.OK, e)
					since(t, h, h.High()-1, "/", 1, []api.Event{e}, h.High())
				}
			}
		}
	}
}

// P22.1: an event that is not right refuses all of them, wherever it stands.
func TestWrongEvents(t *testing.T) {
	h := watch.New(5)
	push(t, h, api.OK, some(6, 3)...)
	var wrong []api.Event
	for _, path := range noPaths {
		wrong = append(wrong, ev(7, 3, "-", path, "x"), ev(7, 0, "gone", path, ""))
	}
	for kind := 1; kind < 5; kind++ {
		for _, name := range noNames {
			wrong = append(wrong, ev(7, kind, "gone", "/a", name))
		}
	}
	for _, name := range append([]string{"x", "a-b"}, noNames[1:]...) {
		wrong = append(wrong, ev(7, 0, "-", "/a", name))
	}
	for _, kind := range noKinds {
		wrong = append(wrong, ev(7, kind, "-", "/a", "x"), ev(7, kind, "-", "/a", ""))
	}
	for _, version := range []int64{6, 8, 0, -7, 5, 7 + 1<<32, math.MinInt64, math.MaxInt64} {
		wrong = append(wrong, ev(version, 3, "-", "/a", "x"))
	}
	for _, e := range wrong {
		refused(t, h, api.ErrArg, e)
		for at := range 4 {
			refused(t, h, api.ErrArg, slices.Insert(some(7, 3), at, e)...)
		}
	}
	push(t, h, api.OK, some(7, 3)...)
}

// P22.1: where a list is too long and an event of it wrong, that is told first, even if it is the last.
func TestPushRefusesInOrder(t *testing.T) {
	h := watch.New(0)
	for _, n := range []int{129, 130, 1000} {
		refused(t, h, api.ErrLong, some(1, n)...)
		refused(t, h, api.ErrArg, some(2, n)...)
		refused(t, h, api.ErrArg, append(some(1, n), ev(1, 3, "-", "/a", "X"))...)
		refused(t, h, api.ErrArg, append(some(1, n), ev(2, 3, "-", "/a", "x"))...)
	}
	push(t, h, api.OK, some(1, 128)...)
}

// P22.1: Since's refusals, each at its edges, and the first that holds where several do.
func TestSinceRefusesInOrder(t *testing.T) {
	h := watch.New(5)
	push(t, h, api.OK, some(6, 100)...)
	push(t, h, api.OK, some(7, 100)...) // those of 6 are forgotten
	mosts := []int{0, -1, 101, math.MinInt, math.MaxInt}
	gone := []int64{5, 4, 0, -1, math.MinInt64}
	future := []int64{8, 9, api.MaxStamp, math.MaxInt64}
	for _, most := range mosts {
		for _, version := range slices.Concat(gone, future, []int64{6, 7}) {
			for _, path := range []string{"/", "/a", "a", ""} {
				sinceNot(t, h, version, path, most, api.ErrArg)
			}
		}
	}
	for _, most := range []int{1, 2, 99, 100} {
		for _, path := range noPaths {
			for _, version := range slices.Concat(gone, future, []int64{6, 7}) {
				sinceNot(t, h, version, path, most, api.ErrPath)
			}
		}
		for _, path := range paths {
			for _, version := range gone {
				sinceNot(t, h, version, path, most, api.ErrGone)
			}
			for _, version := range future {
				sinceNot(t, h, version, path, most, api.ErrFuture)
			}
		}
		since(t, h, 6, "/", most, some(7, 100), 7)
		since(t, h, 7, "/", most, nil, 7)
	}
}

// P22.2: versions are forgotten whole, as many as must be and no more.
func TestForgetsWholeVersions(t *testing.T) {
	for _, c := range []struct {
		sizes []int
		low   int64
	}{
		{[]int{128}, 0},
		{[]int{128, 1}, 1},
		{[]int{127, 1}, 0},
		{[]int{127, 1, 1}, 1},
		{[]int{1, 127}, 0},
		{[]int{1, 128}, 1},
		{[]int{2, 127}, 1},
		{[]int{1, 1, 127}, 1},
		{[]int{1, 1, 1, 126}, 1},
		{[]int{64, 64}, 0},
		{[]int{64, 65}, 1},
		{[]int{40, 40, 40, 40}, 1},
		{[]int{40, 40, 40, 40, 128}, 4},
		{[]int{1, 2, 3, 4, 5, 120}, 4},
		{[]int{1, 2, 3, 4, 5, 119}, 3},
		{[]int{128, 128, 128}, 2},
	} {
		h := watch.New(0)
		for i, n := range c.sizes {
			push(t, h, api.OK, some(int64(i+1), n)...)
		}
		high := int64(len(c.sizes))
		spans(t, h, c.low, high)
		var want []api.Event
		for version := c.low + 1; version <= high; version++ {
			want = append(want, some(version, c.sizes[version-1])...)
		}
		if got := whole(t, h, c.low, "/"); !slices.Equal(got, want) {
			t.Errorf("behind %v are %v", c.sizes, got)
		}
		if c.low > 0 {
			sinceNot(t, h, c.low-1, "/", 100, api.ErrGone)
		}
	}
}

// P22.1, P22.3: how many are told, by how many each version has, most, and whether what is behind lies in the path.
func TestHowManyAreTold(t *testing.T) {
	for _, c := range []struct {
		sizes string // of each version: a digit, so many in /a; a dot, one in /b
		most  int
		n     int
		upTo  int64
	}{
		{"1111", 2, 2, 2},
		{"1111", 4, 4, 4},
		{"1111", 3, 3, 3},
		{"1111", 5, 4, 4},
		{"22", 1, 2, 1},
		{"22", 2, 2, 1},
		{"22", 3, 2, 1},
		{"22", 4, 4, 2},
		{"9", 1, 9, 1},
		{"9.", 1, 9, 2},
		{".9", 1, 9, 2},
		{".9.1", 1, 9, 2},
		{"91", 9, 9, 1},
		{"91", 10, 10, 2},
		{"19", 1, 1, 1},
		{"19", 9, 1, 1},
		{"191", 9, 1, 1}, // the one behind the nine would fit, but they end it
		{"1.9", 9, 1, 1}, // the last that is told, not the last that was looked at
		{"1.1", 2, 2, 3},
		{"1.1.", 2, 2, 4},
		{"1.1..1", 2, 2, 3},
		{"....", 1, 0, 4},
		{"", 1, 0, 0},
	} {
		h := watch.New(0)
		var in []api.Event
		for i, size := range c.sizes {
			if size == '.' {
				push(t, h, api.OK, ev(int64(i+1), 3, "-", "/b", "x"))
				continue
			}
			l := some(int64(i+1), int(size-'0'))
			push(t, h, api.OK, l...)
			in = append(in, l...)
		}
		since(t, h, 0, "/a", c.most, in[:c.n], c.upTo)
	}
}

// P22.1: events of one version in several paths: those in the path alone are told, in their order, and counted.
func TestMixedVersions(t *testing.T) {
	h := watch.New(0)
	one := []api.Event{ev(1, 3, "-", "/b", "a"), ev(1, 3, "-", "/a/b", "z"), ev(1, 3, "-", "/ab", "b"), ev(1, 1, "gone", "/a", "a"), ev(1, 3, "-", "/", "c")}
	two := []api.Event{ev(2, 0, "-", "/a-b", ""), ev(2, 3, "-", "/a/b/c", "y"), ev(2, 0, "gone", "/a", ""), ev(2, 3, "-", "/a/b/c", "y")}
	push(t, h, api.OK, one...)
	push(t, h, api.OK, two...)
	since(t, h, 0, "/a", 2, []api.Event{one[1], one[3]}, 1)
	since(t, h, 0, "/a", 4, []api.Event{one[1], one[3]}, 1)
	since(t, h, 0, "/a", 5, []api.Event{one[1], one[3], two[1], two[2], two[3]}, 2)
	since(t, h, 0, "/a/b", 3, []api.Event{one[1], two[1], two[3]}, 2)
	since(t, h, 0, "/a/b", 2, []api.Event{one[1]}, 1)
	since(t, h, 0, "/a/b/c", 1, []api.Event{two[1], two[3]}, 2)
	since(t, h, 0, "/a-b", 1, []api.Event{two[0]}, 2)
	since(t, h, 0, "/ab", 1, []api.Event{one[2]}, 2)
	since(t, h, 0, "/b", 1, []api.Event{one[0]}, 2)
	since(t, h, 0, "/c", 1, nil, 2)
	since(t, h, 0, "/", 9, slices.Concat(one, two), 2)
	since(t, h, 0, "/", 8, one, 1)
	since(t, h, 0, "/", 4, one, 1)
}

// Hubs stand apart.
func TestHubsStandApart(t *testing.T) {
	a, b := watch.New(0), watch.New(0)
	push(t, a, api.OK, some(1, 1)...)
	spans(t, b, 0, 0)
	push(t, b, api.OK, some(1, 128)...)
	push(t, b, api.OK, some(2, 128)...)
	spans(t, a, 0, 1)
	since(t, a, 0, "/", 1, some(1, 1), 1)
	since(t, b, 1, "/", 1, some(2, 128), 2)
}

// P22.1: Replay of lists of any kind.
func TestReplay(t *testing.T) {
	comes, goes := ev(1, 3, "-", "/a", "x"), ev(2, 3, "gone", "/a", "x")
	for _, c := range []struct {
		kind  int
		path  string
		names []string
		l     []api.Event
		want  []string
	}{
		{3, "/", nil, nil, nil},
		{3, "/a", []string{"z", "", "a", "B", "\xff", "é", "a", " ", "a b", "a\x00"}, nil, []string{"", " ", "B", "a", "a\x00", "a b", "z", "é", "\xff"}},
		{3, "/a", nil, []api.Event{comes}, []string{"/a x"}},
		{3, "/a", nil, []api.Event{comes, comes}, []string{"/a x"}},
		{3, "/a", []string{"/a x"}, []api.Event{comes}, []string{"/a x"}},
		{3, "/a", []string{"/a x", "/a x"}, []api.Event{goes}, nil},
		{3, "/a", nil, []api.Event{goes}, nil},
		{3, "/a", nil, []api.Event{comes, goes}, nil},
		{3, "/a", []string{"/a x"}, []api.Event{goes, comes}, []string{"/a x"}}, // their order counts, not their versions
		{3, "/a", []string{"/a x"}, []api.Event{goes, goes, comes, goes}, nil},
		{0, "/", []string{"/a ", "/b"}, []api.Event{ev(1, 0, "gone", "/a", ""), ev(1, 0, "gone", "/b", ""), ev(1, 0, "-", "/", "")}, []string{"/ ", "/b"}},
		// What lies beside the path, or isn't of the kind, takes nothing away.
		{3, "/a", []string{"/ab x", "/ x", "/a x"}, []api.Event{ev(1, 3, "gone", "/ab", "x"), ev(1, 3, "gone", "/", "x"), ev(1, 2, "gone", "/a", "x"), ev(1, 4, "gone", "/a", "x")}, []string{"/ x", "/a x", "/ab x"}},
		// Events that aren't right: any name, any kind, but of a path.
		{3, "/a", []string{"/a X y"}, []api.Event{ev(-9, 3, "-", "/a", ""), ev(math.MaxInt64, 3, "gone", "/a", "X y"), ev(0, 3, "-", "/a/b", "\xff /")}, []string{"/a ", "/a/b \xff /"}},
		{-1, "/", nil, []api.Event{ev(1, -1, "-", "/a", "x"), ev(1, 1, "-", "/a", "y")}, []string{"/a x"}},
		{math.MinInt, "/", nil, []api.Event{ev(1, math.MinInt, "-", "/a", "x"), ev(1, 0, "-", "/a", "")}, []string{"/a x"}},
		{0, "/", nil, []api.Event{ev(1, 0, "-", "/a", "x")}, []string{"/a x"}},
		// What is no path has nothing in it, and lies in nothing.
		{3, "a", []string{"q", "p", "a x"}, []api.Event{ev(1, 3, "-", "a", "y"), ev(1, 3, "gone", "a", "x"), comes}, []string{"a x", "p", "q"}},
		{3, "", []string{" x"}, []api.Event{ev(1, 3, "gone", "", "x"), comes}, []string{" x"}},
		{3, "/", []string{"a x"}, []api.Event{ev(1, 3, "gone", "a", "x"), ev(1, 3, "-", "/A", "x"), ev(1, 3, "-", "/a/", "x"), ev(1, 3, "-", "", "")}, []string{"a x"}},
	} {
		replay(t, c.kind, c.path, c.names, c.l, c.want...)
	}
	for _, path := range noPaths {
		replay(t, 3, path, []string{path + " x"}, []api.Event{ev(1, 3, "gone", path, "x"), ev(1, 3, "-", path, "y")}, path+" x")
	}
}

// P22.1: long lists and texts are gone through, each once.
func TestReplayOfMuch(t *testing.T) {
	var names, want []string
	var l []api.Event
	for i := range 20000 {
		names = append(names, fmt.Sprintf("/a n%05d", i/2))
		if i%2 == 0 {
			l = append(l, ev(1, 3, "gone", "/a", fmt.Sprintf("n%05d", i)), ev(1, 3, "-", "/a/b", fmt.Sprintf("n%05d", i)))
			want = append(want, fmt.Sprintf("/a/b n%05d", i))
		} else if i < 10000 {
			want = append(want, fmt.Sprintf("/a n%05d", i))
		}
	}
	huge := strings.Repeat("y", 1<<20)
	l = append(l, ev(1, 3, "-", "/a", huge), ev(1, 3, "-", "/"+huge, "x"))
	want = append(want, "/a "+huge)
	slices.Sort(want)
	if got := watch.Replay(3, "/a", names, l); !slices.Equal(got, want) {
		t.Errorf("%d texts, want %d", len(got), len(want))
	}
}
