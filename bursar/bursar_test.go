package bursar_test

import (
	"strings"
	"testing"

	"bursar/api"
	"bursar/bursar"
)

// checks: Check of a script answers so; and Do of a script that is one line agrees.
func checks(t *testing.T, script string, line int, want api.Errno) {
	t.Helper()
	if n, errno := bursar.Check(script); n != line || errno != want {
		t.Errorf("Check(%q): %d, %d, want %d, %d", short(script), n, errno, line, want)
	}
	if strings.Contains(script, "\n") {
		return
	}
	if _, errno := bursar.New().Do(script); errno != want {
		t.Errorf("Do(%q): %d, want %d", short(script), errno, want)
	}
}

func isCommand(t *testing.T, lines ...string) {
	t.Helper()
	for _, l := range lines {
		checks(t, l, 0, api.OK)
	}
}

func isNoCommand(t *testing.T, lines ...string) {
	t.Helper()
	for _, l := range lines {
		checks(t, l, 1, api.ErrScript)
	}
}

// P27.1, example 1.
func TestCheckExamples(t *testing.T) {
	checks(t, "", 0, api.OK)
	checks(t, "open\nfoo", 2, api.ErrScript)
	checks(t, "crash k,d,t0,t512", 0, api.OK)
	checks(t, "crash t513", 1, api.ErrScript)
	checks(t, "as root dry dry sync", 1, api.ErrScript)
}

// P27.1, example 2.
func TestPlayExamples(t *testing.T) {
	plays(t, "open", "no 191\n")
	plays(t, "new 64 8\nopen\nas root sync", "ok\nok 0\nok 0\n")
	playsNot(t, "foo")
}

func plays(t *testing.T, script, want string) {
	t.Helper()
	if told, errno := bursar.Play(script); told != want || errno != api.OK {
		t.Errorf("Play(%q): %q, %d, want %q", short(script), short(told), errno, short(want))
	}
}

func playsNot(t *testing.T, script string) {
	t.Helper()
	if told, errno := bursar.Play(script); told != "" || errno != api.ErrScript {
		t.Errorf("Play(%q): %q, %d, want ErrScript", short(script), short(told), errno)
	}
}

// P27.1, example 3.
func TestAskExamples(t *testing.T) {
	cpu := func(v int64) []api.Amount { return []api.Amount{{Name: "cpu", Value: v}} }
	asks(t, "quota set /a q priority=3 count=2 cpu=1.5", api.Request{Op: api.OpQuotaSet, Path: "/a", Name: "q", Quota: api.Quota{
		Path: "/a", Name: "q", Scope: api.Scope{Kind: api.ScopePriority, Arg: 3}, Hard: []api.Amount{{Name: "count", Value: 2000}, {Name: "cpu", Value: 1500}}}})
	asks(t, "update /a x prio=-2 ends=9 must=7 label a=b label c= part p req cpu=1 lim cpu=2 part req lim cpu=3", api.Request{Op: api.OpUpdate, Path: "/a", Name: "x", Version: 7, Object: api.Object{
		Path: "/a", Name: "x", Priority: -2, Deadline: 9, Labels: []api.Label{{Key: "a", Value: "b"}, {Key: "c"}},
		Parts: []api.Part{{Name: "p", Requests: cpu(1000), Limits: cpu(2000)}, {Name: "req", Limits: cpu(3000)}}}})
	asks(t, "list /a deep most=2 where a=b,c in (d e)", api.Request{Op: api.OpList, Path: "/a", Deep: true, Most: 2, Terms: []api.Term{
		{Key: "a", How: api.Is, Values: []string{"b"}}, {Key: "c", How: api.Is, Values: []string{"d", "e"}}}})
	asks(t, "list /a where", api.Request{Op: api.OpList, Path: "/a", Most: 100})
	asksNone(t, "create /a x ends=1 prio=2", "list /a where a b", "watch /a -1")
}

// P27.1, example 4.
func TestTellExamples(t *testing.T) {
	tells(t, api.OpGet, api.Reply{Code: api.ErrQuota, Version: 7, Detail: api.Detail{Path: "/a", Resource: "count"}}, "no 180 7 /a - - count\n")
	tells(t, 0, api.Reply{}, "ok 0\n")
}

func tells(t *testing.T, op int, r api.Reply, want string) {
	t.Helper()
	if told := bursar.Tell(op, r); told != want {
		t.Errorf("Tell(%d, %+v): %q, want %q", op, r, told, want)
	}
}

// Example 5, DOC.md's first: nothing there.
func TestExampleNothing(t *testing.T) {
	steps(t, bursar.New(), "open -> no 191", "new 63 8 -> no 1", "new 64 23 -> no 1", "new 64 8 -> ok", "as root stat -> no 191", "open -> ok 0", "dump -> ok 0 | node /")
}

// DOC.md's second: quotas.
func TestExampleQuotas(t *testing.T) {
	steps(t, behind(t), "dump -> "+dumpOfS(), "as root create /a y part p -> no 180 3 /a q - count",
		"as root quota set / r notbest requests.cpu=499m -> no 182 3 / r - requests.cpu", "as root quota set / r notbest requests.cpu=500m -> ok 4",
		"as root quota set /a q all count=2 -> ok 5", "as root create /a y part p req cpu=1m -> no 180 5 / r - requests.cpu",
		"as root create /a y part p -> ok 6 | object /a y 0 0 6 part p")
}

// DOC.md's third: limit ranges.
func TestExampleLimits(t *testing.T) {
	steps(t, running(t, 64, 8), "as root node add /a -> ok 1", "as root limit set /a l rule cpu min=100m max=2 default=1 request=500m -> ok 2",
		"as root create /a z part p -> ok 3 | object /a z 0 0 3 part p req cpu=500m lim cpu=1", "as root create /a w part p req cpu=50m -> no 160 3 /a l p cpu",
		"as root create /a w part p req cpu=1 lim cpu=3 -> no 161 3 /a l p cpu",
		"as root dry create /a w part p lim cpu=2 -> ok 3 | object /a w 0 0 4 part p req cpu=500m lim cpu=2")
}

// DOC.md's fourth: access.
func TestExampleAccess(t *testing.T) {
	steps(t, behind(t), "as ann get /a x -> no 210 3 /a - - -", "as root bind /a b ann read -> ok 4", "as ann get /a x -> ok 4 | object /a x 0 0 3 part p req cpu=500m",
		"as ann delete /a x -> no 210 4 /a - - -", "as ann nodes / -> no 210 4 / - - -", "as root unbind /a b -> ok 5")
}

// DOC.md's fifth: watching.
func TestExampleWatch(t *testing.T) {
	steps(t, behind(t), "as root watch / 0 -> ok 3 | event 1 0 0 /a - | event 2 1 0 /a q | event 3 3 0 /a x", "as root watch / 1 most=1 -> ok 2 | event 2 1 0 /a q",
		"as root watch / 4 -> no 221 3 - - - -", "as root sync -> ok 3", "open -> ok 3", "as root watch / 2 -> no 220 3 - - - -", "as root watch / 3 -> ok 3")
}

// DOC.md's sixth: evicting.
func TestExampleEvict(t *testing.T) {
	steps(t, behind(t), "as root evict /a z part p -> no 200 3 - - - -",
		"as root evict /a z prio=5 part p -> ok 4 | object /a x 0 0 3 part p req cpu=500m | object /a z 5 0 4 part p", "as root node drop /a -> no 193 4 - - - -",
		"as root delete /a z -> ok 5 | object /a z 5 0 4 part p", "as root node drop /a -> ok 6", "dump -> ok 6 | node /")
}

// unsynced: a world with the version 1 durable, and 2 not.
func unsynced(t *testing.T) *bursar.World {
	t.Helper()
	w := bursar.New()
	steps(t, w, "new 64 8 -> ok", "open -> ok 0", "as root node add /a -> ok 1", "as root sync -> ok 1", "as root node add /b -> ok 2")
	return w
}

// DOC.md's seventh: crashes.
func TestExampleCrash(t *testing.T) {
	steps(t, unsynced(t), "crash - -> ok 0", "open -> ok 1")
	for _, c := range []string{"k -> ok 1/2", "t500 -> ok 1/1", "d -> ok 0/1"} {
		fate, version, _ := strings.Cut(c, "/")
		steps(t, unsynced(t), "arm 1 -> ok", "as root sync -> no 6 2 - - - -", "crash "+fate, "open -> ok "+version)
	}
}

// DOC.md's eighth: a dead server.
func TestExampleDead(t *testing.T) {
	steps(t, unsynced(t), "arm 0 -> ok", "as root sync -> no 6 2 - - - -", "dump -> no 6", "as root node add /c -> no 6 2 - - - -", "raw : -> no 2 2 - - - -",
		"open -> no 6", "arm 3 -> no 6", "crash - -> ok 0", "open -> ok 1")
}

// DOC.md's ninth: an enemy.
func TestExampleEnemy(t *testing.T) {
	steps(t, behind(t), "as root checkpoint -> ok 3", "fsck 64 -> ok 0", "edit 0 0 :00 -> ok", "edit 1 0 :00 -> ok", "open -> no 5", "fsck 9 -> no 5")
}

// DOC.md's tenth: another device.
func TestExampleBackup(t *testing.T) {
	steps(t, behind(t), "as root sync -> ok 3", "export -> ok", "open -> ok 3", "swap -> ok 1", "import 100 10 -> ok", "open -> ok 3", "dump -> "+dumpOfS(),
		"as root node add /b -> ok 4", "swap -> ok 0", "dump -> "+dumpOfS())
}

// P27.1: a script's limits, and those of a line.
func TestScriptLimits(t *testing.T) {
	comment := func(n int) string { return "#" + strings.Repeat("x", n-1) }
	full := strings.Repeat(comment(4095)+"\n", 16) // 65536 bytes
	checks(t, comment(4096), 0, api.OK)
	checks(t, comment(4097), 1, api.ErrScript)
	checks(t, "open\n"+comment(4097)+"\nopen", 2, api.ErrScript)
	checks(t, full, 0, api.OK)
	checks(t, full+"\n", 0, api.ErrScript)
	checks(t, full[:65535]+"\n", 0, api.OK)
	checks(t, strings.Repeat("x", 65536), 1, api.ErrScript)
	checks(t, strings.Repeat("x", 65537), 0, api.ErrScript)
	checks(t, "foo\n"+full, 0, api.ErrScript)
	for _, line := range []string{"", "open", "#"} {
		lines := strings.Repeat(line+"\n", 1023)
		checks(t, lines+line+"\n", 0, api.OK)
		checks(t, lines+"swap", 0, api.OK)
		checks(t, lines+line+"\n\n", 0, api.ErrScript)
		checks(t, lines+line+"\n ", 0, api.ErrScript)
		checks(t, "foo\n"+lines, 1, api.ErrScript)
		checks(t, "foo\n"+lines+"open", 0, api.ErrScript)
	}
	playsNot(t, full+"\n")
	playsNot(t, strings.Repeat("\n", 1025))
	playsNot(t, "new 64 8\nopen\nas root sync now")
	plays(t, full, "")
	plays(t, strings.Repeat("open\n", 1024), strings.Repeat("no 191\n", 1024))
}
