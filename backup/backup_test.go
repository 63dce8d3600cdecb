package backup_test

import (
	"bytes"
	"encoding/hex"
	"strings"
	"testing"

	"bursar/anchor"
	"bursar/api"
	"bursar/backup"
	"bursar/dev"
	"bursar/store"
)

var (
	first  = stateOf(0)
	second = stateOf(300, "a", "1", "b", "")
)

// hexed: bytes in base sixteen with blanks between them.
func hexed(t *testing.T, s string) []byte {
	t.Helper()
	b, err := hex.DecodeString(strings.ReplaceAll(s, " ", ""))
	if err != nil {
		t.Fatal(err)
	}
	return b
}

func TestExample1(t *testing.T) {
	x, y := sealed(hexed(t, "bb 01 00 00")), sealed(hexed(t, "bb 01 ac 02 02 01 61 01 31 01 62 00"))
	if len(x) != 8 || len(y) != 16 || !bytes.Equal(x, first.stream()) || !bytes.Equal(y, second.stream()) {
		t.Fatalf("the test's own streams: %x, %x", first.stream(), second.stream())
	}
	verifies(t, "the first", x, 0, 0, api.OK)
	verifies(t, "the second", y, 2, 300, api.OK)
}

func TestExample2(t *testing.T) {
	x, y := first.stream(), second.stream()
	a, b := hex.EncodeToString(x[4:]), hex.EncodeToString(y[12:])
	forth := sealed(hexed(t, "bc 01 00"+a+"ac 02"+b+"02 00 01 61 01 31 00 01 62 00"))
	back := sealed(hexed(t, "bc 01 ac 02"+b+"00"+a+"02 01 01 61 01 01 62"))
	itself := sealed(hexed(t, "bc 01 ac 02"+b+"ac 02"+b+"00"))
	if len(forth) != 27 || len(itself) != 19 {
		t.Fatalf("%d, %d bytes", len(forth), len(itself))
	}
	diffs(t, "forth", x, y, forth, api.OK)
	diffs(t, "back", y, x, back, api.OK)
	diffs(t, "to itself", y, y, itself, api.OK)
	merges(t, "forth", x, forth, y, api.OK)
	merges(t, "back", y, back, x, api.OK)
	merges(t, "to itself", y, itself, y, api.OK)
}

func TestExample3(t *testing.T) {
	x, y := first.stream(), second.stream()
	isNone(t, "none", nil, first)
	isNone(t, "without its last byte", y[:15], first)
	isNone(t, "the byte 1 turned to 2", sealed(hexed(t, "bb 02 ac 02 02 01 61 01 31 01 62 00")), first)
	isNone(t, "the keys b, a", sealed(hexed(t, "bb 01 ac 02 02 01 62 00 01 61 01 31")), first)
	isNone(t, "a key of 121 bytes", stateOf(0, text(121), "").stream(), first)
	isNone(t, "a byte behind the entries", sealed(append(y[:12:12], 0)), first)
	verifies(t, "a difference", difference(first, second), 0, 0, api.ErrBad)
	merges(t, "from another one", y, difference(first, second), nil, api.ErrBad)
	merges(t, "a stream", x, y, nil, api.ErrBad)
}

func TestExample4(t *testing.T) {
	y, d := second.stream(), device(t, 64)
	is(t, "Import(nil)", backup.Import(nil, 8, y), api.ErrArg)
	importsNot(t, "a log of 7", d, 7, y, api.ErrArg)
	importsNot(t, "x", d, 8, []byte("x"), api.ErrBad)
	is(t, "Import", backup.Import(d, 8, y), api.OK)
	holds(t, "behind Import", open(t, d), second)
}

func TestExample5(t *testing.T) {
	exportsNot(t, "nil", nil, api.ErrArg)
	d := device(t, 64)
	is(t, "Format", store.Format(d, 8), api.OK)
	s := open(t, d)
	is(t, "Arm", d.Arm(0), api.OK)
	d.Flush()
	if !d.Down() {
		t.Fatal("the device is up")
	}
	exportsNot(t, "down", s, api.ErrDown)
	d.Crash(nil)
	exportsNot(t, "dead", s, api.ErrDown)
	exports(t, "opened anew", open(t, d), first)
}

func exportsNot(t *testing.T, what string, s *store.Store, want api.Errno) {
	t.Helper()
	if b, errno := backup.Export(s); len(b) != 0 || errno != want {
		t.Errorf("Export, %s: %x, %d, want %d", what, b, errno, want)
	}
}

// TestCorrupt: somebody edits the device of an open store.
func TestCorrupt(t *testing.T) {
	d := device(t, 64)
	is(t, "Import", backup.Import(d, 8, second.stream()), api.OK)
	s := open(t, d)
	super, _, _ := anchor.Read(d)
	d.Edit(super.Root, 100, []byte{1})
	exportsNot(t, "edited", s, api.ErrCorrupt)
	d.Edit(super.Root, 100, []byte{0})
	exports(t, "edited back", s, second)
}

// TestOrder: of several errors the first that is named is told.
func TestOrder(t *testing.T) {
	is(t, "no device, no stream", backup.Import(nil, 7, nil), api.ErrArg)
	d := device(t, 64)
	importsNot(t, "a log of 7, no stream", d, 7, first.stream()[:7], api.ErrBad)
	d.Arm(0)
	d.Flush()
	importsNot(t, "down, no stream", d, 8, nil, api.ErrBad)
	importsNot(t, "down, a log of 23", d, 23, second.stream(), api.ErrArg)
	great := stateOf(0)
	for i := range 4 {
		great.values[string(rune('a'+i))] = text(8192)
	}
	importsNot(t, "down, without room", d, 8, great.stream(), api.ErrNoSpace)
	importsNot(t, "down", d, 8, second.stream(), api.ErrDown)
}

// TestLaysErrors: what is a stream, but of no state that a store can be laid with, or not there.
func TestLaysErrors(t *testing.T) {
	for _, c := range []struct {
		what        string
		blocks, log int
		s           state
		want        api.Errno
	}{
		{"the greatest version of all", 64, 8, stateOf(1 << 60), api.ErrArg},
		{"a version too great by one", 64, 8, stateOf(top+1, "a", "1"), api.ErrArg},
		{"the greatest version", 64, 8, stateOf(top, "a", "1"), api.OK},
		{"the greatest log", 64, 22, second, api.OK},
		{"a log too great by one", 64, 23, second, api.ErrArg},
		{"a log below 0", 64, -1, second, api.ErrArg},
		{"a log of 512", 600, 512, second, api.OK},
		{"a log of 513", 600, 513, second, api.ErrArg},
		{"the longest key and value", 64, 8, stateOf(0, text(120), text(8192)), api.OK},
		{"a value too much", 64, 8, stateOf(0, "a", text(8192), "b", text(8192), "c", text(8192), "d", text(8192)), api.ErrNoSpace},
	} {
		d := device(t, c.blocks)
		verifies(t, c.what, c.s.stream(), len(c.s.values), c.s.version, api.OK)
		if c.want != api.OK {
			importsNot(t, c.what, d, c.log, c.s.stream(), c.want)
			continue
		}
		is(t, c.what, backup.Import(d, c.log, c.s.stream()), api.OK)
		holds(t, c.what, open(t, d), c.s)
	}
}

// TestRefusedLeavesAll: a refused Import leaves the store that lies there.
func TestRefusedLeavesAll(t *testing.T) {
	d := device(t, 64)
	is(t, "Import", backup.Import(d, 8, second.stream()), api.OK)
	importsNot(t, "no stream", d, 8, sealed([]byte{187, 1, 0}), api.ErrBad)
	importsNot(t, "too great a version", d, 8, stateOf(top+1).stream(), api.ErrArg)
	holds(t, "behind refusals", open(t, d), second)
}

// TestEdges: what is just a stream yet, and what is none any more.
func TestEdges(t *testing.T) {
	for what, b := range map[string][]byte{
		"three bytes":                   {187, 1, 0},
		"four bytes that are a sum":     sealed(nil),
		"a byte":                        sealed(hexed(t, "bb")),
		"two bytes":                     sealed(hexed(t, "bb 01")),
		"no number":                     sealed(hexed(t, "bb 01 00")),
		"another kind":                  sealed(hexed(t, "ba 01 00 00")),
		"a difference's kind":           sealed(hexed(t, "bc 01 00 00")),
		"a layout of 0":                 sealed(hexed(t, "bb 00 00 00")),
		"one entry of none":             sealed(hexed(t, "bb 01 00 01")),
		"an entry without a value":      sealed(hexed(t, "bb 01 00 01 01 61")),
		"a number too little":           sealed(hexed(t, "bb 01 00 01 01 61 00 01 62 00")),
		"a number too great":            sealed(hexed(t, "bb 01 00 03 01 61 00 01 62 00")),
		"no number at all":              sealed(hexed(t, "bb 01 00 00 01 61 00")),
		"the greatest number":           sealed(hexed(t, "bb 01 00 ff ff ff ff ff ff ff ff ff 01 01 61 00")),
		"a number below 0, as it were":  sealed(hexed(t, "bb 01 00 80 80 80 80 80 80 80 80 80 01")),
		"a key without bytes":           sealed(hexed(t, "bb 01 00 01 00 00")),
		"one ahead of another":          sealed(hexed(t, "bb 01 00 02 00 00 01 61 00")),
		"one behind another":            sealed(hexed(t, "bb 01 00 02 01 61 00 00 00")),
		"a key twice":                   sealed(hexed(t, "bb 01 00 02 01 61 00 01 61 00")),
		"falling at the end":            sealed(hexed(t, "bb 01 00 03 01 61 00 01 63 00 01 62 00")),
		"the keys ab, a":                sealed(hexed(t, "bb 01 00 02 02 61 62 00 01 61 00")),
		"a long form of the version":    sealed(hexed(t, "bb 01 80 00 00")),
		"a long form of the number":     sealed(hexed(t, "bb 01 00 80 00")),
		"a long form of a length":       sealed(hexed(t, "bb 01 00 01 81 00 61 00")),
		"a version above the greatest":  sealed(hexed(t, "bb 01 81 80 80 80 80 80 80 80 10 00")),
		"a version above all":           sealed(hexed(t, "bb 01 80 80 80 80 80 80 80 80 80 01 00")),
		"a value of 8193 bytes":         stateOf(0, "k", text(8193)).stream(),
		"a key of 121 bytes among some": stateOf(0, "a", "", text(121), "", "w", "").stream(),
		"a sum of another":              append(sealed(hexed(t, "bb 01 00"))[:3:3], sealed(hexed(t, "bb 01 00 00"))[3:7]...),
		"a sum highest byte first":      swapped(second.stream()),
		"a stream sealed twice":         sealed(second.stream()),
	} {
		isNone(t, what, b, second)
	}
	verifies(t, "the greatest version", stateOf(1<<60).stream(), 0, 1<<60, api.OK)
	verifies(t, "the longest key", stateOf(1, text(120), "").stream(), 1, 1, api.OK)
	verifies(t, "the longest value", stateOf(1, "k", text(8192)).stream(), 1, 1, api.OK)
	verifies(t, "keys of any bytes", stateOf(1, "\x00", "", "\x00\x00", "", "\x7f", "", "\x80", "", "\xff", "").stream(), 5, 1, api.OK)
}

func swapped(b []byte) []byte {
	n := len(b)
	b[n-4], b[n-3], b[n-2], b[n-1] = b[n-1], b[n-2], b[n-3], b[n-4]
	return b
}

// TestNoDifference: what is sealed, but no difference from the stream in question.
func TestNoDifference(t *testing.T) {
	x, y := first.stream(), second.stream()
	a, b := hex.EncodeToString(x[4:]), hex.EncodeToString(y[12:])
	long := stateOf(0, text(121), "").stream()
	fat := stateOf(0, "k", text(8193)).stream()
	from, to := "bc 01 00"+a, "ac 02"+b
	for what, c := range map[string]struct {
		old  []byte
		diff []byte
	}{
		"another kind":                    {x, sealed(hexed(t, "bb 01 00"+a+to+"02 00 01 61 01 31 00 01 62 00"))},
		"another layout":                  {x, sealed(hexed(t, "bc 02 00"+a+to+"02 00 01 61 01 31 00 01 62 00"))},
		"another old version":             {x, sealed(hexed(t, "bc 01 01"+a+to+"02 00 01 61 01 31 00 01 62 00"))},
		"another old mark":                {x, sealed(hexed(t, "bc 01 00"+b+to+"02 00 01 61 01 31 00 01 62 00"))},
		"another version":                 {x, sealed(hexed(t, from+"ad 02"+b+"02 00 01 61 01 31 00 01 62 00"))},
		"another mark":                    {x, sealed(hexed(t, from+"ac 02"+a+"02 00 01 61 01 31 00 01 62 00"))},
		"a change too few":                {x, sealed(hexed(t, from+to+"01 00 01 61 01 31"))},
		"another value":                   {x, sealed(hexed(t, from+to+"02 00 01 61 01 32 00 01 62 00"))},
		"a number too little":             {x, sealed(hexed(t, from+to+"01 00 01 61 01 31 00 01 62 00"))},
		"a number too great":              {x, sealed(hexed(t, from+to+"03 00 01 61 01 31 00 01 62 00"))},
		"the greatest number":             {x, sealed(hexed(t, from+to+"ff ff ff ff ff ff ff ff ff 01 00 01 61 01 31 00 01 62 00"))},
		"a byte behind":                   {x, sealed(hexed(t, from+to+"02 00 01 61 01 31 00 01 62 00 00"))},
		"keys that fall":                  {x, sealed(hexed(t, from+to+"02 00 01 62 00 00 01 61 01 31"))},
		"a key twice":                     {x, sealed(hexed(t, from+to+"03 00 01 61 01 30 00 01 61 01 31 00 01 62 00"))},
		"a key without bytes":             {x, sealed(hexed(t, from+to+"03 00 00 00 00 01 61 01 31 00 01 62 00"))},
		"one that goes and isn't there":   {x, sealed(hexed(t, from+to+"03 00 01 61 01 31 00 01 62 00 01 01 63"))},
		"gone, with a value":              {y, sealed(hexed(t, "bc 01"+to+"00"+a+"02 01 01 61 00 01 01 62 00"))},
		"gone of 2":                       {y, sealed(hexed(t, "bc 01"+to+"00"+a+"02 02 01 61 01 01 62"))},
		"a change that is none":           {y, sealed(hexed(t, "bc 01"+to+to+"01 00 01 61 01 31"))},
		"changes that are none":           {y, sealed(hexed(t, "bc 01"+to+to+"02 00 01 61 01 31 00 01 62 00"))},
		"nothing behind the kind":         {x, sealed(hexed(t, "bc 01"))},
		"the first mark alone":            {x, sealed(hexed(t, from))},
		"no number":                       {x, sealed(hexed(t, from+to))},
		"unsealed":                        {x, difference(first, second)[:23]},
		"a version above the greatest":    {x, difference(first, stateOf(1<<60+1, "a", "1"))},
		"to a key of 121 bytes":           {x, difference(first, stateOf(0, text(121), ""))},
		"from one":                        {long, difference(stateOf(0, text(121), ""), first)},
		"to a value of 8193 bytes":        {x, difference(first, stateOf(0, "k", text(8193)))},
		"from one of 8193":                {fat, difference(stateOf(0, "k", text(8193)), first)},
		"the other way round":             {y, difference(first, second)},
		"of another with the same keys":   {stateOf(300, "a", "1", "b", "2").stream(), difference(second, first)},
		"of another with another version": {stateOf(301, "a", "1", "b", "").stream(), difference(second, first)},
	} {
		merges(t, what, c.old, c.diff, nil, api.ErrBad)
		if _, errno := backup.Diff(c.old, c.diff); errno != api.ErrBad {
			t.Errorf("Diff to a difference, %s: %d", what, errno)
		}
	}
	merges(t, "the longest", x, difference(first, stateOf(1<<60, text(120), text(8192))), stateOf(1<<60, text(120), text(8192)).stream(), api.OK)
}

// TestStoresOwn: of a store Export tells its state, and changes nothing: no write, no flush, nothing made durable.
func TestStoresOwn(t *testing.T) {
	d := device(t, 64)
	is(t, "Lay", store.Lay(d, 8, 11, stateOf(11, "a", "1", "b", "2").entries()), api.OK)
	s := open(t, d)
	exports(t, "laid", s, stateOf(11, "a", "1", "b", "2"))
	is(t, "Apply", s.Apply([]api.Change{{Key: "a", Gone: true}, {Key: "c", Value: text(700)}}), api.OK)
	was, stat, medium := d.Counts(), s.Stat(), d.Medium()
	exports(t, "not durable", s, stateOf(12, "b", "2", "c", text(700)))
	if now := d.Counts(); now.Writes != was.Writes || now.Flushes != was.Flushes || s.Stat() != stat || !bytes.Equal(d.Medium(), medium) {
		t.Errorf("Export: %+v, was %+v; %+v, was %+v", now, was, s.Stat(), stat)
	}
	is(t, "Sync", s.Sync(), api.OK)
	exports(t, "synced", s, stateOf(12, "b", "2", "c", text(700)))
	is(t, "Checkpoint", s.Checkpoint(), api.OK)
	exports(t, "brought into the tree", s, stateOf(12, "b", "2", "c", text(700)))
	is(t, "Apply", s.Apply([]api.Change{{Key: "b", Gone: true}, {Key: "c", Gone: true}}), api.OK)
	exports(t, "emptied", s, stateOf(13))
	other, _ := dev.Of(d.Medium())
	exports(t, "what was durable", open(t, other), stateOf(12, "b", "2", "c", text(700)))
}
