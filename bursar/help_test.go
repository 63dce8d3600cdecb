package bursar_test

import (
	"fmt"
	"math/rand/v2"
	"slices"
	"strings"
	"testing"

	"bursar/anchor"
	"bursar/api"
	"bursar/bursar"
	"bursar/dev"
)

const off = -1 // a number of a rule that is not set

func source(n uint64) *rand.Rand { return rand.New(rand.NewPCG(27, n)) }

func pick[T any](r *rand.Rand, l ...T) T { return l[r.IntN(len(l))] }

// text tells a thing so that two are alike just if their texts are; an empty list and none are.
func text(v any) string { return fmt.Sprintf("%+q", v) }

// short cuts a text for a message.
func short(s string) string {
	if len(s) > 300 {
		return s[:300] + ".."
	}
	return s
}

// do does a line, which must be a command.
func do(t testing.TB, w *bursar.World, line string) string {
	t.Helper()
	told, errno := w.Do(line)
	if errno != api.OK {
		t.Fatalf("Do(%q): %d", short(line), errno)
	}
	return told
}

// steps does lines, each with what it must tell behind an arrow: "|" with blanks around it stands between told lines, ".." at the end for anything.
func steps(t testing.TB, w *bursar.World, lines ...string) {
	t.Helper()
	for _, l := range lines {
		line, want, arrow := strings.Cut(l, " -> ")
		if !arrow {
			t.Fatalf("a step without an arrow: %q", l)
		}
		want = strings.ReplaceAll(want, " | ", "\n") + "\n"
		got := do(t, w, line)
		if head, open := strings.CutSuffix(want, "..\n"); open {
			if !strings.HasPrefix(got, head) {
				t.Errorf("%q tells %q, want %q and more", line, short(got), head)
			}
		} else if got != want {
			t.Errorf("%q tells %q, want %q", line, short(got), short(want))
		}
	}
}

// isNone: a line, which is no command, answers so and changes nothing of what the world tells.
func isNone(t testing.TB, w *bursar.World, line string) {
	t.Helper()
	before := view(t, w)
	if told, errno := w.Do(line); told != "" || errno != api.ErrScript {
		t.Errorf("Do(%q): %q, %d, want ErrScript", short(line), short(told), errno)
	}
	if after := view(t, w); after != before {
		t.Errorf("Do(%q) changes the world from %q to %q", short(line), short(before), short(after))
	}
}

// view tells what can be told of both machines and of the stream without changing them.
func view(t testing.TB, w *bursar.World) string {
	t.Helper()
	var b strings.Builder
	for range 2 {
		b.WriteString(do(t, w, "counts"))
		b.WriteString(do(t, w, "dump"))
		b.WriteString(do(t, w, "as root stat"))
		b.WriteString(do(t, w, "as root watch / 0"))
		fmt.Fprintf(&b, "%q", w.Medium())
		b.WriteString(do(t, w, "import 0 0")) // whether there is a stream
		b.WriteString(do(t, w, "swap"))
	}
	return b.String()
}

// S: the five lines with which the document's examples begin.
var S = []string{
	"new 64 8 -> ok", "open -> ok 0", "as root node add /a -> ok 1", "as root quota set /a q all count=1 -> ok 2",
	"as root create /a x part p req cpu=500m -> ok 3 | object /a x 0 0 3 part p req cpu=500m",
}

// dumpOfS: what dump tells behind them.
func dumpOfS() string {
	told := "ok 3 | node / | node /a | quota /a q all count=1 | object /a x 0 0 3 part p req cpu=500m"
	for _, path := range []string{"/", "/a"} {
		for _, s := range []string{"all", "notbest", "notends", "priority=0"} {
			told += " | use " + path + " " + s + " count 1 | use " + path + " " + s + " requests.cpu 500m"
		}
	}
	return told
}

// behind tells a world in which S was done.
func behind(t testing.TB) *bursar.World {
	t.Helper()
	w := bursar.New()
	steps(t, w, S...)
	return w
}

// running tells a world with an open server, and does lines that must be done.
func running(t testing.TB, blocks, log int, lines ...string) *bursar.World {
	t.Helper()
	w := bursar.New()
	done(t, w, fmt.Sprintf("new %d %d", blocks, log))
	done(t, w, "open")
	for _, l := range lines {
		done(t, w, l)
	}
	return w
}

// done does a line that must not be refused, and tells what it tells.
func done(t testing.TB, w *bursar.World, line string) string {
	t.Helper()
	told := do(t, w, line)
	if !strings.HasPrefix(told, "ok") {
		t.Fatalf("%q tells %q", short(line), short(told))
	}
	return told
}

// asked asks for a request, which the text must be.
func asked(t testing.TB, line string) api.Request {
	t.Helper()
	q, is := bursar.Ask(line)
	if !is {
		t.Fatalf("Ask(%q) is none", short(line))
	}
	return q
}

// asks: the text is this request.
func asks(t testing.TB, line string, want api.Request) {
	t.Helper()
	if q, is := bursar.Ask(line); !is || text(q) != text(want) {
		t.Errorf("Ask(%q): %+v, %v, want %+v", short(line), q, is, want)
	}
}

// asksNone: the text is no request.
func asksNone(t testing.TB, lines ...string) {
	t.Helper()
	for _, line := range lines {
		if q, is := bursar.Ask(line); is || text(q) != text(api.Request{}) {
			t.Errorf("Ask(%q): %+v, %v, want none", short(line), q, is)
		}
	}
}

// first tells the first line of what was told, its newline left out.
func first(told string) string {
	head, _, _ := strings.Cut(told, "\n")
	return head
}

// linesOf tells the lines that begin with a word, in order.
func linesOf(told, word string) []string {
	return slices.DeleteFunc(strings.Split(told, "\n"), func(l string) bool { return !strings.HasPrefix(l, word+" ") })
}

// newest tells the superblock that counts.
func newest(t testing.TB, w *bursar.World) api.Super {
	t.Helper()
	d, errno := dev.Of(w.Medium())
	if errno != api.OK {
		t.Fatalf("dev.Of: %d", errno)
	}
	s, _, errno := anchor.Read(d)
	if errno != api.OK {
		t.Fatalf("anchor.Read: %d", errno)
	}
	return s
}
