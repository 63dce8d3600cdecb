package bursar_test

import (
	"bytes"
	"fmt"
	"math/rand/v2"
	"slices"
	"strconv"
	"strings"
	"testing"

	"bursar/api"
	"bursar/ask"
	"bursar/bursar"
)

// Lines at random: most are commands that a server takes.

func randomPath(r *rand.Rand) string {
	if r.IntN(12) == 0 {
		return pick(r, "/c", "/a-b", "/a/b/c", "x", "/A", "part", "must=1", "-")
	}
	return pick(r, "/", "/a", "/a", "/a", "/a/b", "/a/b")
}

func randomName(r *rand.Rand) string {
	if r.IntN(20) == 0 {
		return pick(r, "part", "req", "A", "q=1")
	}
	return pick(r, "x", "y", "z")
}

func randomQuantity(r *rand.Rand) string {
	return pick(r, "0", "1", "2", "3", "5", "500m", "1500m", "1.5", "2k", "1Ki", "0.0001", "9223372036854775807m", "5000000000000")
}

func randomAmounts(r *rand.Rand, names ...string) string {
	slices.Sort(names)
	told := ""
	for _, n := range names {
		if r.IntN(2) == 0 {
			told += " " + n + "=" + randomQuantity(r)
		}
	}
	return told
}

func randomScope(r *rand.Rand) string {
	return pick(r, "all", "all", "best", "notbest", "ends", "notends", "priority="+strconv.Itoa(r.IntN(10)))
}

// maybe tells a text one time of n.
func maybe(r *rand.Rand, n int, text string) string {
	if r.IntN(n) == 0 {
		return text
	}
	return ""
}

func randomObject(r *rand.Rand) string {
	told := randomPath(r) + " " + randomName(r) + maybe(r, 2, fmt.Sprintf(" prio=%d", r.IntN(10))) + maybe(r, 3, fmt.Sprintf(" ends=%d", r.IntN(4))) + maybe(r, 4, fmt.Sprintf(" must=%d", 1+r.IntN(30)))
	told += maybe(r, 3, " label app="+pick(r, "web", "db", "db", "", "", "A")) + maybe(r, 4, " label tier=x")
	for i := range 1 + r.IntN(2) {
		told += " part " + pick(r, "p", "q", "p", "q", "p", "q", "P") + strconv.Itoa(i) + maybe(r, 2, " req"+randomAmounts(r, "cpu", "mem")) + maybe(r, 2, " lim"+randomAmounts(r, "cpu", "mem"))
	}
	return told
}

func randomRules(r *rand.Rand) string {
	told := ""
	for _, res := range []string{"cpu", "mem"} {
		told += maybe(r, 2, " rule "+res+maybe(r, 3, " min="+randomQuantity(r))+maybe(r, 3, " max="+randomQuantity(r))+maybe(r, 2, " default="+randomQuantity(r))+maybe(r, 2, " request="+randomQuantity(r))+maybe(r, 5, " ratio="+randomQuantity(r)))
	}
	return told
}

func randomSelector(r *rand.Rand) string {
	return pick(r, "", "app", "!app", "app=web", "app!=web", "app in (web db)", "app notin (web db),tier", "tier=x,app=", "a b", "app in  (web db)")
}

// randomRequest tells a request's text.
func randomRequest(r *rand.Rand) string {
	p, n := randomPath(r), randomName(r)
	switch r.IntN(23) {
	case 0, 1:
		return "node add " + p
	case 2:
		return "node " + pick(r, "drop", "drop", "add", "move") + " " + p
	case 3, 4:
		return "quota set " + p + " " + n + " " + randomScope(r) + randomAmounts(r, "count", "requests.cpu", "limits.mem")
	case 5:
		return pick(r, "quota", "limit") + " drop " + p + " " + n
	case 6:
		return "limit set " + p + " " + n + randomRules(r)
	case 7, 8, 9:
		return "create " + randomObject(r)
	case 10:
		return "update " + randomObject(r)
	case 11:
		return "evict " + randomObject(r)
	case 12:
		return "delete " + p + " " + n + maybe(r, 3, " must="+strconv.Itoa(r.IntN(30)))
	case 13:
		return pick(r, "get "+p+" "+n, "nodes "+p, "status "+p+" "+n)
	case 14, 15:
		return "list " + p + maybe(r, 2, " deep") + maybe(r, 4, " from="+pick(r, "", "x", "/a x", n)) + maybe(r, 3, " most="+strconv.Itoa(r.IntN(102))) + maybe(r, 3, " where "+randomSelector(r))
	case 16:
		return "watch " + p + " " + strconv.Itoa(r.IntN(40)) + maybe(r, 3, " most="+strconv.Itoa(r.IntN(129)))
	case 17:
		return "bind " + p + " " + n + " " + pick(r, "ann", "bob", "A") + " " + pick(r, "read", "write", "govern", "bind")
	case 18:
		return "unbind " + p + " " + n
	case 19:
		return "quota set " + p + " " + n + " all count=" + strconv.Itoa(1+r.IntN(3))
	}
	return pick(r, "sync", "sync", "checkpoint", "stat")
}

func randomFates(r *rand.Rand) string {
	var l []string
	for range r.IntN(8) {
		l = append(l, pick(r, "k", "k", "d", "t"+strconv.Itoa(r.IntN(513))))
	}
	return dash(strings.Join(l, ","))
}

func randomBytes(r *rand.Rand) string {
	if r.IntN(4) == 0 {
		return pick(r, ":", ":00", ":520111", ":ffff", ":5")
	}
	q, is := bursar.Ask(randomRequest(r))
	if q.Subject = pick(r, "root", "ann"); !is {
		return ":5201"
	}
	b, _ := ask.EncodeRequest(q)
	return fmt.Sprintf(":%x", b)
}

// randomLine tells a line.
func randomLine(r *rand.Rand) string {
	switch n := r.IntN(100); {
	case n < 70:
		return "as " + pick(r, "root", "root", "root", "root", "ann", "bob", "A") + maybe(r, 8, " dry") + " " + randomRequest(r)
	case n < 75:
		return "raw " + randomBytes(r)
	case n < 79:
		return "open"
	case n < 86:
		return pick(r, "dump", "counts", "swap", "export", "fsck "+strconv.Itoa(r.IntN(67)), "# nothing", "")
	case n < 89:
		return "arm " + strconv.Itoa(r.IntN(8))
	case n < 91:
		return "crash " + randomFates(r)
	case n < 92:
		return pick(r, "new ", "import ") + pick(r, "64", "64", "80", "63", "-1") + " " + pick(r, "8", "8", "9", "7", "23")
	case n < 93:
		return fmt.Sprintf("edit %d %d :%02x", r.IntN(65), r.IntN(514), r.IntN(256))
	}
	return pick(r, "foo", "open x", "as root", "swap # back", "swap # \n")
}

// bent tells a text that is a little another.
func bent(r *rand.Rand, s string) string {
	words := strings.Split(s, " ")
	i := r.IntN(len(words))
	switch r.IntN(9) {
	case 0:
		words = slices.Delete(words, i, i+1)
	case 1:
		words = slices.Insert(words, i, pick(r, "part", "req", "lim", "label", "rule", "where", "deep", "dry", "=", "a=1", "min=1", "prio=1", "ends=1", "must=1", "from=x", "most=1", "#", "", "\t", "x", "-1", "\n"))
	case 2:
		words = slices.Insert(words, i, words[r.IntN(len(words))])
	case 3:
		j := r.IntN(len(words))
		words[i], words[j] = words[j], words[i]
	case 4:
		words[i] += pick(r, "1", "=", ",", "x", "m", "-", "\t", "#", "0000000000")
	case 5:
		words[i] = pick(r, "1", "=", ",", "x", "m", "-", "\t", "+", "") + words[i]
	case 6:
		words[i] = strings.ToUpper(words[i])
	case 7:
		if n := len(words[i]); n > 0 {
			words[i] = words[i][:r.IntN(n)]
		}
	default:
		return strings.Join(words, pick(r, "  ", "\t", " \t ", ""))
	}
	return strings.Join(words, " ")
}

// P27.1: Ask of any text tells what the chapter's table says of it; no text can be read in two ways.
func TestAskRandom(t *testing.T) {
	r := source(1)
	f := requestForm()
	taken := 0
	for range 60000 {
		s := maybe(r, 8, "dry ") + randomRequest(r)
		for range r.IntN(3) {
			s = bent(r, s)
		}
		l := readings(s, f)
		if len(l) > 1 && !slices.ContainsFunc(l, func(x line) bool { return text(x.request) != text(l[0].request) }) {
			l = l[:1]
		}
		if len(l) > 1 {
			t.Fatalf("%q can be read in two ways: %+v, %+v", s, l[0].request, l[1].request)
		}
		q, is := bursar.Ask(s)
		if is != (len(l) == 1) {
			t.Fatalf("Ask(%q): %v, want %v", s, is, len(l) == 1)
		}
		if want := (api.Request{}); is {
			taken++
			if text(q) != text(l[0].request) {
				t.Fatalf("Ask(%q): %+v, want %+v", s, q, l[0].request)
			}
		} else if text(q) != text(want) {
			t.Fatalf("Ask(%q), which is none: %+v", s, q)
		}
	}
	if taken < 10000 || taken > 50000 {
		t.Errorf("%d of the texts are taken", taken)
	}
}

// P27.1: Check of any script tells what the chapter's tables say of its lines.
func TestCheckRandom(t *testing.T) {
	r := source(2)
	f := lineForm()
	for range 8000 {
		var lines []string
		for range r.IntN(5) {
			s := randomLine(r)
			if r.IntN(4) == 0 {
				s = bent(r, s)
			}
			lines = append(lines, s)
		}
		script := strings.Join(lines, "\n") + maybe(r, 3, "\n")
		want := 0
		lines = strings.Split(strings.TrimSuffix(script, "\n"), "\n")
		for i, l := range lines {
			if len(readings(l, f)) == 0 && want == 0 {
				want = i + 1
			}
		}
		errno := api.OK
		if want > 0 {
			errno = api.ErrScript
		}
		if n, got := bursar.Check(script); n != want || got != errno {
			t.Fatalf("Check(%q): %d, %d, want %d", script, n, got, want)
		}
		if _, got := bursar.Play(script); got != errno {
			t.Fatalf("Play(%q): %d, want %d", script, got, errno)
		}
	}
}

// P27.1, P27.2, P27.3: a world does what the chapter's table says, line by line; Play tells the same.
func TestWorldRandom(t *testing.T) {
	codes := map[string]int{}
	for seed := range uint64(200) {
		r := source(100 + seed)
		w, p := bursar.New(), &paper{}
		f := lineForm()
		var script, told strings.Builder
		last := ""
		for n := range 300 {
			s := randomLine(r)
			if n < 4 {
				s = []string{"new 64 8", "open", "as root node add /a", "as root node add /a/b"}[n]
			} else if last == "no 191\n" || strings.HasPrefix(last, "no 6") {
				s = pick(r, s, "open", "open", "open", "open", "crash -", "crash k,k", maybe(r, 5, "new 64 8"))
			}
			l := readings(s, f)
			got, errno := w.Do(s)
			if len(l) == 0 {
				if got != "" || errno != api.ErrScript {
					t.Fatalf("Do(%q): %q, %d, want ErrScript", s, got, errno)
				}
				continue
			}
			if want := p.do(l[0]); got != want || errno != api.OK {
				t.Fatalf("seed %d: Do(%q): %q, %d, want %q", seed, s, got, errno, want)
			}
			codes[strings.Join(append(strings.Fields(first(got)), "", "")[:2], " ")]++
			script.WriteString(s + "\n")
			told.WriteString(got)
			last = got
			if m := w.Medium(); p.devices[p.at] == nil && m != nil || p.devices[p.at] != nil && !bytes.Equal(m, p.devices[p.at].Medium()) {
				t.Fatalf("behind %q the world has another medium", s)
			}
		}
		plays(t, script.String(), told.String())
	}
	for _, code := range []string{" ", "ok ", "no 1", "no 2", "no 6", "no 41", "no 130", "no 140", "no 141", "no 143", "no 160", "no 162", "no 180", "no 181", "no 182", "no 190", "no 191", "no 192", "no 193", "no 200", "no 210", "no 220", "no 221"} {
		if codes[code] == 0 {
			t.Errorf("no script tells %q", code)
		}
	}
}

// P27.1: any reply and any dump are told as the chapter says.
func TestTellRandom(t *testing.T) {
	r := source(3)
	for range 20000 {
		op, reply := r.IntN(api.OpEnd+2)-1, randomReply(r)
		tells(t, op, reply, tellPaper(op, reply))
		d := randomDump(r)
		if told, want := bursar.Dump(d), dumpPaper(d); told != want {
			t.Fatalf("Dump(%+v):\n%s, want\n%s", d, told, want)
		}
	}
}

func randomText(r *rand.Rand) string {
	return pick(r, "", "", "/", "/a", "x", "-", "a b", "=", "\xff", "#", "\n", "part")
}

func randomValue(r *rand.Rand) int64 {
	return pick(r, 0, 1, -1, -1, 1000, 1500, 2048000, r.Int64(), -r.Int64())
}

func someOf[T any](r *rand.Rand, one func() T) []T {
	var l []T
	for range r.IntN(4) {
		l = append(l, one())
	}
	return l
}

func anyAmounts(r *rand.Rand) []api.Amount {
	return someOf(r, func() api.Amount { return api.Amount{Name: randomText(r), Value: randomValue(r)} })
}

func anyObject(r *rand.Rand) api.Object {
	return api.Object{Path: randomText(r), Name: randomText(r), Priority: int(randomValue(r)), Deadline: randomValue(r), Version: randomValue(r),
		Labels: someOf(r, func() api.Label { return api.Label{Key: randomText(r), Value: randomText(r)} }),
		Parts: someOf(r, func() api.Part {
			return api.Part{Name: randomText(r), Requests: anyAmounts(r), Limits: anyAmounts(r)}
		})}
}

func anyScope(r *rand.Rand) api.Scope {
	return api.Scope{Kind: r.IntN(8) - 1, Arg: pick(r, 0, 0, 0, 5, 9, 10, -1)}
}

func randomReply(r *rand.Rand) api.Reply {
	reply := api.Reply{Version: randomValue(r), More: r.IntN(2) == 0, Detail: api.Detail{Path: randomText(r), Name: randomText(r), Part: randomText(r), Resource: randomText(r)},
		Objects: someOf(r, func() api.Object { return anyObject(r) }), Names: someOf(r, func() string { return randomText(r) }),
		Lines: someOf(r, func() api.Line {
			return api.Line{Resource: randomText(r), Hard: randomValue(r), Used: randomValue(r)}
		}),
		Events: someOf(r, func() api.Event {
			return api.Event{Version: randomValue(r), Kind: int(randomValue(r)), Gone: r.IntN(2) == 0, Path: randomText(r), Name: randomText(r)}
		}),
		Stat: api.Stat{Generation: randomValue(r), Epoch: randomValue(r), Version: randomValue(r), LogFree: int(randomValue(r)), Entries: int(randomValue(r)), Unsynced: int(randomValue(r))}}
	if r.IntN(4) == 0 {
		reply.Code = api.Errno(randomValue(r))
	}
	return reply
}

func randomDump(r *rand.Rand) api.Dump {
	return api.Dump{Version: randomValue(r), Nodes: someOf(r, func() string { return randomText(r) }), Objects: someOf(r, func() api.Object { return anyObject(r) }),
		Quotas: someOf(r, func() api.Quota {
			return api.Quota{Path: randomText(r), Name: randomText(r), Scope: anyScope(r), Hard: anyAmounts(r)}
		}),
		Limits: someOf(r, func() api.LimitRange {
			return api.LimitRange{Path: randomText(r), Name: randomText(r), Rules: someOf(r, func() api.Rule {
				return api.Rule{Resource: randomText(r), Min: randomValue(r), Max: randomValue(r), Default: randomValue(r), Request: randomValue(r), Ratio: randomValue(r)}
			})}
		}),
		Bindings: someOf(r, func() api.Binding {
			return api.Binding{Path: randomText(r), Name: randomText(r), Subject: randomText(r), Verb: r.IntN(7) - 2}
		}),
		Uses: someOf(r, func() api.Use {
			return api.Use{Path: randomText(r), Scope: anyScope(r), Resource: randomText(r), Value: randomValue(r)}
		})}
}
