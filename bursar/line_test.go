package bursar_test

import (
	"fmt"
	"slices"
	"strconv"
	"strings"
	"testing"

	"bursar/api"
	"bursar/bursar"
)

// P27.1: blanks, comments, empty lines.
func TestBlanks(t *testing.T) {
	isCommand(t, " ", "\t", "#", " # open", "open", " open", "open ", "\topen\t", "open#", "open # foo # bar", "new\t \t64  8", "as  root\tsync", "as root sync#sync")
	isNoCommand(t, "o pen", "open\r", "\ropen", "open\v", "open\x00", "open\u00a0", "op#en", "fo#o", "\x0b", "open open", "; open", "\xff")
	w := bursar.New()
	for _, line := range []string{"", " ", "\t \t", "#", " #open", "# swap"} {
		if told, errno := w.Do(line); told != "" || errno != api.OK {
			t.Errorf("Do(%q): %q, %d", line, told, errno)
		}
	}
	steps(t, w, "swap -> ok 1", " \tswap\t # swap -> ok 0", "swap# ok -> ok 1")
}

// P27.1, P27.3: a line with a newline, or one that is too long, is none, wherever that stands.
func TestNewline(t *testing.T) {
	w := behind(t)
	for _, line := range []string{"\n", "swap\n", "\nswap", "swap # \n", "swap\nswap", "as root\nsync", "#\n", "swap #" + strings.Repeat("x", 4091), "swap" + strings.Repeat(" ", 4093), strings.Repeat(" ", 4097)} {
		isNone(t, w, line)
	}
	steps(t, w, "swap"+strings.Repeat(" ", 4092)+" -> ok 1", "swap #"+strings.Repeat("x", 4090)+" -> ok 0")
}

// P27.1: every command has its name and just so many arguments.
func TestArguments(t *testing.T) {
	for _, line := range []string{"new 1 2", "open", "as x sync", "raw :", "arm 1", "crash -", "edit 1 2 :", "counts", "dump", "fsck 1", "export", "import 1 2", "swap"} {
		isCommand(t, line, "\t"+line+" #x")
		words := strings.Split(line, " ")
		isNoCommand(t, line+" x", line+" 1", line+" :", line+" -", strings.ToUpper(line), line[1:], strings.Replace(line, words[0], words[0]+"s", 1))
		if len(words) > 1 {
			isNoCommand(t, strings.Join(words[:len(words)-1], " "), strings.Join(words, ""), words[0], strings.Join(words[1:], " "))
		}
	}
	isNoCommand(t, "foo", "-", ":", "1", "dry sync", "sync", "node add /a", "quit", "empty", "if")
}

// P27.1: numbers, at their edges.
func TestNumbers(t *testing.T) {
	isCommand(t, "arm 0", "arm -0", "arm 00", "arm 9999999999", "arm -9999999999", "arm 0000000001", "arm -0000000001", "new -1 0000000007", "fsck 64", "edit -1 -1 :")
	isNoCommand(t, "arm", "arm -", "arm +1", "arm --1", "arm 1-", "arm 1.0", "arm 1e3", "arm 0x1", "arm 1_0", "arm x", "arm 10000000000", "arm -10000000000", "arm 00000000001", "arm :", "arm 1 1", "arm \u0661", "arm - 1",
		"new 64 x", "new x 8", "new 64 8 8", "import 64", "import 64 x", "fsck -", "edit 0 :", "edit 0 x :", "edit x 0 :")
	steps(t, behind(t), "arm -1 -> no 1", "arm -0 -> ok", "fsck 00064 -> ok 0", "fsck -1 -> no 1", "fsck 9999999999 -> no 1", "fsck 65 -> no 1", "fsck 0 -> ok 0", "edit -0 -1 : -> no 1", "edit 63 512 : -> ok", "edit 63 513 : -> no 1",
		"edit 64 0 : -> no 60", "edit -1 0 : -> no 60", "edit 9999999999 -9999999999 : -> no 60", "edit 0 9999999999 : -> no 1")
}

// P27.1: bytes, at their edges.
func TestBytes(t *testing.T) {
	isCommand(t, "raw :", "raw :00", "raw :0123456789abcdef", "edit 0 0 :ff", "raw :"+strings.Repeat("0", 4090))
	isNoCommand(t, "raw", "raw 00", "raw :0", "raw :000", "raw :0A", "raw :0g", "raw :g0", "raw ::", "raw :0x", "raw :-1", "raw :00 00", "raw : 00", "raw 0:", "raw :+1", "raw :é", "raw :0 ", "raw :/0", "raw :0`", "raw :@0", "edit 0 :00 0", "raw :"+strings.Repeat("0", 4091))
	w := behind(t)
	steps(t, w, "edit 63 9 :00017f80fe0faf -> ok", "edit 63 16 :f0 -> ok")
	if got := string(w.Medium()[63*512+8 : 63*512+18]); got != "\x00\x00\x01\x7f\x80\xfe\x0f\xaf\xf0\x00" {
		t.Errorf("edit lays %q", got)
	}
}

// P27.1: no other byte is a digit.
func TestDigits(t *testing.T) {
	for c := range 256 {
		b := string([]byte{byte(c)})
		if strings.Contains(" \t\n#", b) {
			continue
		}
		digit := strings.Contains("0123456789", b)
		for line, is := range map[string]bool{"arm " + b: digit, "arm 1" + b: digit, "arm -" + b: digit, "arm -1" + b: digit, "crash t" + b: digit, "crash t1" + b: digit, "as root watch / " + b: digit, "as root watch / 1" + b: digit,
			"raw :0" + b: digit || strings.Contains("abcdef", b), "raw :" + b + "0": digit || strings.Contains("abcdef", b), "arm " + b + "1": digit || b == "-", "as root watch / " + b + "1": digit} {
			if is {
				isCommand(t, line)
			} else {
				isNoCommand(t, line)
			}
		}
	}
}

// P27.1: fates, at their edges; each does with a write what it says.
func TestFates(t *testing.T) {
	isCommand(t, "crash -", "crash k", "crash d", "crash t0", "crash t512", "crash t0000000512", "crash k,d,t1,k", "crash k"+strings.Repeat(",t512", 511))
	isNoCommand(t, "crash", "crash k,", "crash ,k", "crash ,", "crash k,,d", "crash t", "crash t513", "crash t00000000512", "crash t-1", "crash t+1", "crash T1", "crash K", "crash kd", "crash k d", "crash -,k", "crash k,-", "crash --", "crash t1x", "crash 1", "crash t 1",
		"crash k"+strings.Repeat(",k", 512), "crash t9999999999", "crash t0x1")
	for _, c := range []string{"k/1/2", "d/0/1", "t512/1/2", "t0/1/1", "t500/1/1", "-/0/1", "t0000000512,k,d/1/2", "d,k/0/1", "k,d,d,d/1/2"} {
		p := strings.Split(c, "/")
		steps(t, unsynced(t), "arm 1 -> ok", "as root sync -> no 6 2 - - - -", "crash "+p[0]+" -> ok "+p[1], "open -> ok "+p[2])
	}
}

// P27.1: each of several writes has its own fate, in their order.
func TestFatesInOrder(t *testing.T) {
	torn := func(fates string, want int) []int {
		w := threeWrites(t)
		before := w.Medium()
		if told := do(t, w, "crash "+fates); told != fmt.Sprintf("ok %d\n", want) {
			t.Errorf("crash %s tells %q, want %d", fates, told, want)
		}
		return changedBlocks(before, w.Medium())
	}
	var each []int
	for _, fates := range []string{"k", "d,k", "d,d,k,k"} {
		blocks := torn(fates, 1)
		if len(blocks) != 1 || slices.Contains(each, blocks[0]) {
			t.Fatalf("crash %s changes the blocks %v; others changed %v", fates, blocks, each)
		}
		each = append(each, blocks[0])
	}
	for _, c := range []struct {
		fates string
		n     int
		want  []int
	}{
		{"-", 0, nil}, {"d", 0, nil}, {"d,d,d,k", 0, nil}, {"t0,t0", 2, nil}, {"k,k", 2, each[:2]}, {"k,d,k", 2, []int{each[0], each[2]}}, {"d,t512,k", 2, each[1:]},
		{"k,k,k,k,k", 3, each}, {"k" + strings.Repeat(",k", 511), 3, each}, {"d,t300,d", 1, each[1:2]},
	} {
		want := slices.Sorted(slices.Values(c.want))
		if got := torn(c.fates, c.n); !slices.Equal(got, want) {
			t.Errorf("crash %s changes the blocks %v, want %v", short(c.fates), got, want)
		}
	}
}

// threeWrites: a world whose device went down behind a flush and three writes of a checkpoint.
func threeWrites(t *testing.T) *bursar.World {
	t.Helper()
	w := running(t, 64, 8, "as root node add /a")
	for i := range 9 {
		done(t, w, fmt.Sprintf("as root create /a x%d label key=value part p req cpu=1 mem=2 lim cpu=3 mem=4 part q req cpu=5 mem=6 lim cpu=7 mem=8", i))
	}
	before := counted(t, do(t, w, "counts"))
	steps(t, w, "arm 6 -> ok", "as root checkpoint -> no 6 10 - - - -")
	after := counted(t, do(t, w, "counts"))
	if after[1] != before[1]+5 || after[2] != before[2]+1 {
		t.Fatalf("a checkpoint cut short behind six acts: counts %v, then %v", before, after)
	}
	return w
}

// counted tells the numbers of a first line.
func counted(t testing.TB, told string) []int {
	t.Helper()
	var l []int
	for _, word := range strings.Fields(first(told))[1:] {
		n, err := strconv.Atoi(word)
		if err != nil {
			t.Fatalf("%q: %v", told, err)
		}
		l = append(l, n)
	}
	return l
}

// changedBlocks tells in which blocks two media differ.
func changedBlocks(a, b []byte) []int {
	var l []int
	for i := 0; i < len(a); i += 512 {
		if string(a[i:i+512]) != string(b[i:i+512]) {
			l = append(l, i/512)
		}
	}
	return l
}
