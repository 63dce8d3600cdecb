package bursar_test

import (
	"bytes"
	"fmt"
	"strings"
	"testing"

	"bursar/api"
	"bursar/ask"
	"bursar/bursar"
	"bursar/dev"
	"bursar/server"
)

// P27.1: ErrMissing is looked at ahead of all else, the numbers too.
func TestMissing(t *testing.T) {
	device := []string{"open", "arm 1", "arm -1", "crash -", "crash k", "edit 0 0 :", "edit -1 -1 :00", "counts", "fsck 1", "fsck 65", "fsck -1", "export"}
	ofServer := []string{"dump", "raw :", "raw :520111", "as root sync", "as A sync", "as root dry node add x", "as root list / most=-1"}
	stream := []string{"import 64 8", "import 63 8", "import -1 -1"}
	w := bursar.New()
	if w.Medium() != nil {
		t.Errorf("a medium without a device")
	}
	for _, line := range append(append(device, ofServer...), stream...) {
		steps(t, w, line+" -> no 191")
	}
	done(t, w, "new 64 8")
	for _, line := range append(ofServer, stream...) {
		steps(t, w, line+" -> no 191")
	}
	steps(t, w, "swap -> ok 1")
	for _, line := range append(append(device, ofServer...), stream...) {
		steps(t, w, line+" -> no 191")
	}
	steps(t, w, "swap -> ok 0", "open -> ok 0", "as A sync -> no 210 0 / - - -", "raw : -> no 2 0 - - - -", "import 64 8 -> no 191", "export -> ok", "dump -> no 191",
		"import 63 8 -> no 1", "import -1 -1 -> no 1", "swap -> ok 1", "import 63 8 -> no 1", "open -> no 191", "import 64 8 -> ok", "dump -> no 191", "open -> ok 0")
}

// P27.1: new and import that are refused change nothing; the server goes on, with what it hadn't synced.
func TestRefusedNew(t *testing.T) {
	w := behind(t)
	steps(t, w, "export -> ok", "open -> ok 0", "as root node add /b -> ok 1")
	before := view(t, w)
	for _, line := range []string{"new 63 8 -> no 1", "new 4097 8 -> no 1", "new 64 7 -> no 1", "new 64 513 -> no 1", "new 64 23 -> no 1", "new -64 8 -> no 1", "new 64 -8 -> no 1", "new 9999999999 9999999999 -> no 1", "new 64 9999999999 -> no 1",
		"import 63 8 -> no 1", "import 4097 8 -> no 1", "import 64 7 -> no 1", "import 64 513 -> no 1", "import 64 23 -> no 1", "import 64 -8 -> no 1", "import -9999999999 8 -> no 1"} {
		steps(t, w, line)
		if view(t, w) != before {
			t.Errorf("%s changes something", line)
		}
	}
	steps(t, w, "dump -> ok 1 | node / | node /b", "new 64 22 -> ok", "dump -> no 191", "open -> ok 0", "new 4096 512 -> ok", "open -> ok 0")
}

// P27.1: a stream that is too great for a device is refused, and changes nothing.
func TestImportNoSpace(t *testing.T) {
	w := running(t, 512, 64, "as root node add /a")
	labels := strings.Repeat("x", 31)
	for i := range 400 {
		done(t, w, fmt.Sprintf("as root create /a x%d label a%s=%s label b%s=%s label c%s=%s part p", i, labels, labels, labels, labels, labels, labels))
	}
	done(t, w, "as root checkpoint")
	done(t, w, "export")
	done(t, w, "new 64 8")
	done(t, w, "open")
	done(t, w, "as root node add /b")
	before := view(t, w)
	steps(t, w, "import 64 8 -> no 3")
	if view(t, w) != before {
		t.Errorf("a refused import changes something")
	}
	steps(t, w, "dump -> ok 1 | node / | node /b", "import 512 8 -> ok", "open -> ok 401")
}

// P27.1: open and export give the server up also where they are refused; what it hadn't synced is lost.
func TestGivenUp(t *testing.T) {
	for _, line := range []string{"open", "export"} {
		w := behind(t)
		steps(t, w, "arm 0 -> ok", line+" -> no 6", "dump -> no 191", "as root stat -> no 191", "crash - -> ok 0", "dump -> no 191", "open -> ok 0", "dump -> ok 0 | node /")
		w = behind(t)
		steps(t, w, "as root checkpoint -> ok 3", "edit 0 0 :00 -> ok", "edit 1 0 :00 -> ok", "dump -> "+dumpOfS(), line+" -> no 5", "dump -> no 191", "raw : -> no 191")
		w = behind(t)
		steps(t, w, "as root sync -> ok 3", "as root node add /b -> ok 4", line+" -> ok..", "open -> ok 3", "dump -> "+dumpOfS())
	}
}

// P27.1: export tells what lies on the device, not what the server has applied since; a refused one leaves the stream of before.
func TestExport(t *testing.T) {
	w := behind(t)
	steps(t, w, "as root sync -> ok 3", "as root node add /lost -> ok 4", "export -> ok", "open -> ok 3", "as root node add /b -> ok 4", "as root sync -> ok 4",
		"arm 0 -> ok", "export -> no 6", "swap -> ok 1", "import 64 8 -> ok", "open -> ok 3", "dump -> "+dumpOfS(),
		"swap -> ok 0", "crash - -> ok 0", "edit 0 0 :00 -> ok", "edit 1 0 :00 -> ok", "export -> no 5", "import 100 8 -> ok", "open -> ok 3", "dump -> "+dumpOfS(), "swap -> ok 1", "open -> ok 3")
}

// P27.1: what lies on a device as a store that is no server's can't be opened, but exported; so can a state by import.
func TestExportNoServer(t *testing.T) {
	d, _ := dev.New(64)
	if errno := server.Format(d, 8); errno != api.OK {
		t.Fatalf("Format: %d", errno)
	}
	w, errno := bursar.Over(d.Medium())
	if errno != api.OK {
		t.Fatalf("Over: %d", errno)
	}
	steps(t, w, "dump -> no 191", "export -> ok", "dump -> no 191", "open -> ok 0", "as root node add /a -> ok 1", "as root checkpoint -> ok 1")
}

// P27.1: each machine has its own device and server; the stream is the world's.
func TestSwap(t *testing.T) {
	w := behind(t)
	steps(t, w, "swap -> ok 1", "dump -> no 191", "new 100 8 -> ok", "open -> ok 0", "as root node add /other -> ok 1", "swap -> ok 0", "dump -> "+dumpOfS(), "crash - -> ok 0", "dump -> no 191",
		"swap -> ok 1", "dump -> ok 1 | node / | node /other", "arm 0 -> ok", "swap -> ok 0", "open -> ok 0", "as root sync -> ok 0", "swap -> ok 1", "as root sync -> no 6 1 - - - -", "swap -> ok 0", "dump -> ok 0 | node /")
	if n := len(w.Medium()); n != 64*512 {
		t.Errorf("a medium of %d bytes", n)
	}
	steps(t, w, "swap -> ok 1")
	if n := len(w.Medium()); n != 100*512 {
		t.Errorf("the other's medium of %d bytes", n)
	}
}

// P27.1: arm, counts and edit are the device's; a crash takes the server away, whatever the device does.
func TestDevice(t *testing.T) {
	w := bursar.New()
	steps(t, w, "new 64 8 -> ok")
	before := counted(t, do(t, w, "counts"))
	if len(before) != 3 {
		t.Fatalf("counts tells %v", before)
	}
	steps(t, w, "open -> ok 0", "as root node add /a -> ok 1", "as root sync -> ok 1")
	after := counted(t, do(t, w, "counts"))
	for i, name := range []string{"reads", "writes", "flushes"} {
		if after[i] <= before[i] {
			t.Errorf("%s: %d, then %d", name, before[i], after[i])
		}
	}
	steps(t, w, fmt.Sprintf("counts -> ok %d %d %d", after[0], after[1], after[2]), "as root node add /b -> ok 2", "as root sync -> ok 2", fmt.Sprintf("counts -> ok %d %d %d", after[0], after[1]+1, after[2]+1))
	steps(t, w, "arm 2 -> ok", "as root node add /c -> ok 3", "as root sync -> ok 3", "as root node add /d -> ok 4", "as root sync -> no 6 4 - - - -", "arm 1 -> no 6", "fsck 9 -> no 6", "fsck 65 -> no 1", "export -> no 6", "edit 63 0 :07 -> ok", "crash - -> ok 0", "dump -> no 191", "open -> ok 3", "crash k -> ok 0", "dump -> no 191")
	if w.Medium()[63*512] != 7 {
		t.Errorf("edit of a device that is down lays nothing")
	}
}

// P27.1: fsck tells the device's problems, as many as were asked for.
func TestFsck(t *testing.T) {
	w := behind(t)
	steps(t, w, "as root checkpoint -> ok 3", "fsck 9 -> ok 0")
	root := newest(t, w).Root
	done(t, w, fmt.Sprintf("edit %d 9 :ffff", root))
	steps(t, w, fmt.Sprintf("fsck 9 -> ok 2 | problem 3 %d | problem 8 0", root), fmt.Sprintf("fsck 1 -> ok 1 | problem 3 %d", root), "fsck 0 -> ok 0", "dump -> "+dumpOfS(), "fsck 65 -> no 1", "open -> no 5")
}

// P27.1: raw is the server's Handle, told as the reply is.
func TestRaw(t *testing.T) {
	w := behind(t)
	raw := func(line, subject, want string) {
		t.Helper()
		q := asked(t, line)
		q.Subject = subject
		b, errno := ask.EncodeRequest(q)
		if errno != api.OK {
			t.Fatalf("EncodeRequest: %d", errno)
		}
		steps(t, w, fmt.Sprintf("raw :%x -> %s", b, want))
	}
	raw("get /a x", "root", "ok 3 | object /a x 0 0 3 part p req cpu=500m")
	raw("nodes /", "root", "ok 3 | name /a")
	raw("status /a q", "root", "ok 3 | line count 1 1")
	raw("watch / 2", "root", "ok 3 | event 3 3 0 /a x")
	raw("node add /b", "ann", "no 210 3 / - - -")
	raw("create /a y part p", "root", "no 180 3 /a q - count")
	raw("dry node add /b", "root", "ok 3")
	raw("node add /b", "root", "ok 4")
	raw("stat", "root", strings.ReplaceAll(strings.TrimSuffix(do(t, w, "as root stat"), "\n"), "\n", " | "))
	steps(t, w, "raw : -> no 2 4 - - - -", "raw :52 -> no 2 4 - - - -", "raw :520114 -> no 2 4 - - - -", "raw :52010a04726f6f74022f610178 -> ok 4 | object /a x 0 0 3 part p req cpu=500m", "raw :52011103616e6e -> no 210 4 / - - -", "raw :5201110361 -> no 2 4 - - - -")
	b := bytes.Repeat([]byte{0x52}, 2045)
	steps(t, w, fmt.Sprintf("raw :%x -> no 2 4 - - - -", b))
}

// P27.1: as is the server's Do with the subject and dry; both may be called like any other word.
func TestAs(t *testing.T) {
	w := behind(t)
	steps(t, w, "as root bind / d dry govern -> ok 4", "as dry node add /b -> ok 5", "as dry dry node add /c -> ok 5", "as as sync -> no 210 5 / - - -", "as root dry sync -> ok 5", "as root dry stat -> ok 5..", "as root dry get /a x -> ok 5 | object /a x 0 0 3 part p req cpu=500m",
		"as A% nodes / -> no 210 5 / - - -", "as - nodes / -> no 210 5 / - - -", "as root node add - -> no 41 5 - - - -", "as root nodes x -> no 41 5 - - - -", "as ann nodes x=y -> no 210 5 x=y - - -", "as ann create prio=1 x -> no 210 5 prio=1 - - -",
		"as root dry create /c y part p -> no 140 5 - - - -", "as root dry create /c y -> no 130 5 - - - -", "as root node add /b -> no 141 5 - - - -", "as root dry delete /a x -> ok 5 | object /a x 0 0 3 part p req cpu=500m", "as root delete /a x must=2 -> no 192 5 - - - -", "as root update /a x must=3 part p -> ok 6 | object /a x 0 0 6 part p")
}

// P27.3: a line that is no command changes nothing, wherever the fault stands.
func TestNoCommand(t *testing.T) {
	w := behind(t)
	steps(t, w, "export -> ok", "open -> ok 0", "as root node add /b -> ok 1", "swap -> ok 1", "new 64 8 -> ok", "swap -> ok 0")
	for _, line := range []string{"new 64 8 8", "new 64", "open x", "as root sync x", "as root node add /c /d", "as root node add", "as root create /b x part", "as root node add /c\n", "raw :0", "arm 0 0", "crash - -", "crash k,", "edit 0 0 :0", "edit 0 0 :00 00",
		"counts x", "fsck", "export x", "import 64 8 x", "import 64 x", "swap 1", "dump x", "foo", "as root dry dry node drop /b"} {
		isNone(t, w, line)
	}
	steps(t, w, "dump -> ok 1 | node / | node /b")
}

// P27.1: Over takes just the media that a device may have; nothing is open.
func TestOver(t *testing.T) {
	for _, n := range []int{0, 1, 511, 512, 63 * 512, 64*512 - 1, 64*512 + 1, 4096*512 + 1, 4097 * 512} {
		if w, errno := bursar.Over(make([]byte, n)); w != nil || errno != api.ErrSize {
			t.Errorf("Over %d bytes: %v, %d", n, w != nil, errno)
		}
	}
	if w, errno := bursar.Over(nil); w != nil || errno != api.ErrSize {
		t.Errorf("Over nil: %v, %d", w != nil, errno)
	}
	for _, n := range []int{64, 65, 4096} {
		w, errno := bursar.Over(bytes.Repeat([]byte{7}, n*512))
		if errno != api.OK {
			t.Fatalf("Over %d blocks: %d", n, errno)
		}
		steps(t, w, "counts -> ok 0 0 0", "dump -> no 191", "import 64 8 -> no 191", "open -> no 5", "fsck 9 -> no 5", "swap -> ok 1", "counts -> no 191")
		if w.Medium() != nil {
			t.Errorf("the other machine has a medium")
		}
		steps(t, w, "swap -> ok 0")
		if !bytes.Equal(w.Medium(), bytes.Repeat([]byte{7}, n*512)) {
			t.Errorf("another medium than was handed in")
		}
	}
}

// P27.1: over a copy of the medium there is what was durable.
func TestOverCopy(t *testing.T) {
	w := unsynced(t)
	v, errno := bursar.Over(w.Medium())
	if errno != api.OK {
		t.Fatalf("Over: %d", errno)
	}
	steps(t, v, "open -> ok 1", "dump -> ok 1 | node / | node /a", "as root node add /c -> ok 2", "as root sync -> ok 2")
	steps(t, w, "dump -> ok 2 | node / | node /a | node /b", "as root sync -> ok 2", "open -> ok 2", "dump -> ok 2 | node / | node /a | node /b")
	steps(t, v, "open -> ok 2", "dump -> ok 2 | node / | node /a | node /c")
}

// P27.2: Play is what Do tells of the lines, each time in a new world.
func TestPlayIsDo(t *testing.T) {
	var script strings.Builder
	for _, l := range S {
		line, _, _ := strings.Cut(l, " -> ")
		script.WriteString(line + "\n\n # and so on\n")
	}
	script.WriteString("dump\nas root sync\nexport\nswap\nimport 64 8\nopen\ndump\ncounts\nas root evict /a z prio=1 part p\nas root watch / 3\nfsck 9")
	for range 2 {
		w := bursar.New()
		var want strings.Builder
		for _, line := range strings.Split(script.String(), "\n") {
			want.WriteString(do(t, w, line))
		}
		plays(t, script.String(), want.String())
		plays(t, script.String()+"\n", want.String())
	}
}

// P27.1: an export that finds a value spoilt is refused, and the stream of before stays.
func TestExportSpoilt(t *testing.T) {
	w := running(t, 64, 8, "as root node add /a")
	done(t, w, "as root create /a x label a=b part p req cpu=1 mem=2 lim cpu=3 mem=4 part q req cpu=1 mem=2 lim cpu=3 mem=4 part r req cpu=1 mem=2 lim cpu=3 mem=4")
	steps(t, w, "as root checkpoint -> ok 2", "export -> ok")
	want := w.Medium()
	for block := 10; block < 64; block++ {
		v, errno := bursar.Over(want)
		if errno != api.OK {
			t.Fatalf("Over: %d", errno)
		}
		done(t, v, fmt.Sprintf("edit %d 9 :ffff", block))
		if told := do(t, v, "fsck 9"); !strings.Contains(told, "problem 7 ") {
			continue
		}
		steps(t, v, "open -> no 5", "export -> no 5", "import 64 8 -> no 191")
		steps(t, w, fmt.Sprintf("edit %d 9 :ffff -> ok", block), "export -> no 5", "dump -> no 191", "import 64 8 -> ok", "open -> ok 2", "fsck 9 -> ok 0")
		return
	}
	t.Errorf("the object has no chain")
}
