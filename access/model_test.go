package access_test

import (
	"fmt"
	"math/rand/v2"
	"slices"
	"testing"

	"bursar/access"
	"bursar/api"
	"bursar/label"
)

// P21.1: random calls, wrong ones among them: each answers and does what the model says, and each of the answers comes often.
func TestAnyCalls(t *testing.T) {
	answers := map[string]int{}
	for seed := range uint64(60) {
		r := source(1000 + seed)
		x, m := access.New(), model(nil)
		for range 60 {
			b := anyBinding(r, true)
			call := pick(r, "Set", "Set", "Set", "Set", "Drop", "Leave")
			var answer, want int
			switch call {
			case "Set":
				if seed%2 == 0 && valid(b) { // so many at one path that it is full
					b.Path, b.Name = "/a", fmt.Sprint("n", r.IntN(60))
				}
				answer, want = int(x.Set(b)), int(m.set(b))
			case "Drop":
				path, name := pick(r, everyPath...), pick(r, b.Name, pick(r, noNames...))
				if len(m) > 0 && r.IntN(2) == 0 {
					one := pick(r, m...)
					path, name = one.Path, one.Name
				}
				answer, want = int(x.Drop(path, name)), int(m.drop(path, name))
			case "Leave":
				path := pick(r, pick(r, noPaths...), "/z", "/b", "/ab", deep)
				answer, want = x.Leave(path), m.leave(path)
			}
			if answer != want {
				t.Fatalf("seed %d: %s(%v) = %d, want %d", seed, call, b, answer, want)
			}
			answers[fmt.Sprint(call, answer)]++
		}
		same(t, x, m)
		if t.Failed() {
			t.Fatalf("seed %d", seed)
		}
	}
	for _, answer := range []string{"Set0", "Set130", "Set194", "Drop0", "Drop41", "Drop191", "Leave0", "Leave1"} {
		if answers[answer] < 20 {
			t.Errorf("%s came %d times", answer, answers[answer])
		}
	}
}

// P21.1: Of lists of any kind is what the model says.
func TestAnyLists(t *testing.T) {
	answers := map[api.Errno]int{}
	for seed := range uint64(1500) {
		r := source(3000 + seed)
		var l []api.Binding
		for range pick(r, 0, 1, 3, 20, 40) {
			b := anyBinding(r, r.IntN(10) == 0)
			b.Path = pick(r, b.Path, "/a")
			b.Name = pick(r, b.Name, fmt.Sprint("n", r.IntN(1000)), fmt.Sprint("n", r.IntN(1000)))
			if len(l) == 0 || r.IntN(8) == 0 || !slices.ContainsFunc(l, func(other api.Binding) bool { return other.Path == b.Path && other.Name == b.Name }) {
				l = append(l, b)
			}
		}
		x, errno := access.Of(l)
		m, want := modelOf(l)
		if errno != want || (x == nil) != (want != api.OK) {
			t.Fatalf("seed %d: Of(%v) = %v, %d, want %d", seed, l, x, errno, want)
		}
		if x != nil {
			list(t, x, m.list()...)
		}
		answers[errno]++
	}
	for _, errno := range []api.Errno{api.OK, api.ErrObject, api.ErrExists, api.ErrMany} {
		if answers[errno] < 50 {
			t.Errorf("Of answered %d only %d times", errno, answers[errno])
		}
	}
}

// anyTable: valid bindings, some in the place of others.
func anyTable(t *testing.T, r *rand.Rand) *access.Table {
	x := access.New()
	for range r.IntN(25) {
		if errno := x.Set(anyBinding(r, false)); errno != api.OK {
			t.Fatalf("Set = %d", errno)
		}
	}
	return x
}

var subjects = []string{"ann", "bob", "cy", "nobody", "root"}

// P21.2: May is what the bindings say, by the table's own answers and layer 4's alone.
func TestMayIsWhatTheBindingsSay(t *testing.T) {
	for seed := range uint64(60) {
		x := anyTable(t, source(5000+seed))
		l := x.List()
		for _, subject := range subjects[:4] {
			for _, verb := range everyVerb {
				reached := x.Reach(subject, verb)
				for _, path := range everyPath {
					given := slices.ContainsFunc(l, func(b api.Binding) bool {
						return b.Subject == subject && verb >= 0 && verb <= b.Verb && label.Under(path, b.Path)
					})
					may(t, x, subject, verb, path, given)
					b, is := x.Why(subject, verb, path)
					if is != given || is && !slices.Contains(l, b) {
						t.Errorf("Why(%q, %d, %q) = %v, %v of %v", subject, verb, path, b, is, l)
					}
					at := slices.ContainsFunc(reached, func(top string) bool { return label.Under(path, top) })
					if at != given {
						t.Errorf("May(%q, %d, %q) is %v, Reach = %q", subject, verb, path, given, reached)
					}
				}
			}
		}
		if t.Failed() {
			t.Fatalf("seed %d", seed)
		}
	}
}

// P21.3: power goes down the tree and down the verbs.
func TestPowerGoesDown(t *testing.T) {
	held := 0
	for seed := range uint64(60) {
		x := anyTable(t, source(6000+seed))
		for _, subject := range subjects {
			for _, path := range paths {
				for verb := range 4 {
					if !x.May(subject, verb, path) {
						continue
					}
					held++
					for lesser := range verb {
						may(t, x, subject, lesser, path, true)
					}
					for _, below := range everyPath {
						if label.Under(below, path) {
							may(t, x, subject, verb, below, true)
						}
					}
				}
			}
		}
		if t.Failed() {
			t.Fatalf("seed %d", seed)
		}
	}
	if held < 1000 {
		t.Errorf("only %d things might be done", held)
	}
}

// ask: a question of May.
type ask struct {
	subject string
	verb    int
	path    string
}

func mays(x *access.Table) map[ask]bool {
	all := map[ask]bool{}
	for _, subject := range everySubject {
		for _, verb := range everyVerb {
			for _, path := range everyPath {
				all[ask{subject, verb, path}] = x.May(subject, verb, path)
			}
		}
	}
	return all
}

// P21.3: what is laid or dropped changes only what its own subject (and the one whose place it takes) may do, only at its path and below.
func TestPowerGoesNotAside(t *testing.T) {
	changes := 0
	for seed := range uint64(60) {
		r := source(7000 + seed)
		x := anyTable(t, r)
		for range 5 {
			before := mays(x)
			b := anyBinding(r, false)
			var touched []string
			for _, one := range x.List() {
				if one.Path == b.Path && one.Name == b.Name {
					touched = append(touched, one.Subject)
				}
			}
			if len(touched) > 0 && r.IntN(2) == 0 {
				is(t, "Drop", x.Drop(b.Path, b.Name), api.OK)
			} else {
				is(t, "Set", x.Set(b), api.OK)
				touched = append(touched, b.Subject)
			}
			for q, after := range mays(x) {
				if after == before[q] {
					continue
				}
				changes++
				if !slices.Contains(touched, q.subject) || !label.Under(q.path, b.Path) {
					t.Fatalf("seed %d: %v of %v has changed May%v", seed, b, touched, q)
				}
			}
		}
	}
	if changes < 1000 {
		t.Errorf("only %d answers changed", changes)
	}
}

// P21.4: Of(List()) is the same table, in whatever order they come, and goes on as the same.
func TestOfList(t *testing.T) {
	for seed := range uint64(40) {
		r := source(8000 + seed)
		x := anyTable(t, r)
		l := x.List()
		r.Shuffle(len(l), func(i, j int) { l[i], l[j] = l[j], l[i] })
		tables := []*access.Table{x, made(t, x.List()), made(t, l), table(t, l...)}
		for range 4 {
			laid, gone, left := anyBinding(r, true), anyBinding(r, true), pick(r, paths...)
			var want string
			for i, one := range tables {
				all := told(one) + fmt.Sprint(one.Set(laid), one.Drop(gone.Path, gone.Name), one.Leave(left))
				if i == 0 {
					want = all
				} else if all != want {
					t.Fatalf("seed %d: table %d, now %v, tells not the same as %v", seed, i, one.List(), x.List())
				}
			}
		}
	}
}

// P21.4: a table hangs on its bindings alone: what was there before, and went, leaves no trace.
func TestWhatWentLeavesNoTrace(t *testing.T) {
	for seed := range uint64(40) {
		r := source(9000 + seed)
		x := anyTable(t, r)
		l := x.List()
		want := told(x)
		for range 20 {
			b := anyBinding(r, false)
			b.Name = "passing"
			is(t, "Set", x.Set(b), api.OK)
			is(t, "Drop", x.Drop(b.Path, b.Name), api.OK)
		}
		if len(l) > 0 {
			b := pick(r, l...)
			is(t, "Set of another", x.Set(bind(b.Path, b.Name, "bob", 3)), api.OK)
			is(t, "Set of the one", x.Set(b), api.OK)
			x.Leave(b.Path)
			for _, one := range l {
				if one.Path == b.Path {
					is(t, "Set again", x.Set(one), api.OK)
				}
			}
		}
		if told(x) != want {
			t.Fatalf("seed %d: %v was %v", seed, x.List(), l)
		}
	}
}

// One outcome: the same calls on new tables tell the same, each time.
func TestSameAnswersEachTime(t *testing.T) {
	for seed := range uint64(20) {
		first := told(anyTable(t, source(10000+seed)))
		for range 4 {
			x := anyTable(t, source(10000+seed))
			if told(x) != first || told(x) != first {
				t.Fatalf("seed %d: the same calls tell another thing", seed)
			}
		}
	}
}
