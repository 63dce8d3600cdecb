package limits_test

import (
	"fmt"
	"math"
	"math/rand/v2"
	"reflect"
	"slices"
	"strings"
	"testing"

	"bursar/api"
	"bursar/limits"
	"bursar/object"
)

// P16.1: every call is what the chapter's words say, and each of its answers comes often.
func TestAnyObjectAndLine(t *testing.T) {
	r := source(1)
	told := map[api.Errno]int{}
	for range 30000 {
		o, l := anyObject(r), anyLine(r)
		told[asked(t, o, l)]++
		_, errno := limits.Check(o, l)
		told[errno]++
	}
	for _, errno := range []api.Errno{api.OK, api.ErrAsk, api.ErrMin, api.ErrMax, api.ErrNoCap, api.ErrRatio} {
		if told[errno] < 300 {
			t.Errorf("%d was answered %d times", errno, told[errno])
		}
	}
}

// wild: texts and numbers that a record may have, and those that it may not.
func wildText(r *rand.Rand) string {
	return pick(r, "/", "/a", "x", "cpu", "mem", "", "?", "A", "a/b", "\x00", "\xff", strings.Repeat("x", 32), strings.Repeat("x", 49))
}

func wildNumber(r *rand.Rand) int64 {
	return pick[int64](r, math.MinInt64, -2, -1, -1, 0, 0, 1, 9, 10, 1<<60, 1<<60+1, most)
}

// spoilt: one thing of an object or line is another.
func spoilt(r *rand.Rand, o api.Object, l line) {
	p := &o.Parts[r.IntN(len(o.Parts))]
	list := pick(r, p.Requests, p.Limits)
	if len(list) > 0 && r.IntN(2) == 0 {
		a := &list[r.IntN(len(list))]
		a.Name, a.Value = pick(r, a.Name, wildText(r)), pick(r, a.Value, wildNumber(r))
		return
	}
	if len(l) == 0 {
		p.Name = wildText(r)
		return
	}
	if ranges := l[r.IntN(len(l))]; len(ranges) > 0 {
		one := &ranges[r.IntN(len(ranges))]
		rule := &one.Rules[r.IntN(len(one.Rules))]
		one.Path, one.Name, rule.Resource = pick(r, one.Path, "/", "", wildText(r)), pick(r, one.Name, wildText(r)), pick(r, rule.Resource, rule.Resource, wildText(r))
		*pick(r, &rule.Min, &rule.Max, &rule.Default, &rule.Request, &rule.Ratio) = wildNumber(r)
	}
}

func TestSpoiltObjectsAndLines(t *testing.T) {
	r := source(2)
	told := map[api.Errno]int{}
	for range 20000 {
		o, l := anyObject(r), anyLine(r)
		spoilt(r, o, l)
		o.Path, o.Name = pick(r, o.Path, o.Path, o.Path, wildText(r)), pick(r, o.Name, o.Name, o.Name, wildText(r))
		o.Deadline, o.Version = pick(r, o.Deadline, o.Deadline, wildNumber(r)), pick(r, o.Version, o.Version, wildNumber(r))
		told[asked(t, o, l)]++
	}
	if told[api.ErrObject] < 2000 || told[api.OK] < 100 {
		t.Errorf("told: %v", told)
	}
}

// P16.2: all that was named stays; nothing else comes but amounts; done again nothing comes.
func TestOnlyWhatIsMissing(t *testing.T) {
	r := source(3)
	given := 0
	for range 10000 {
		o, l := anyObject(r), anyLine(r)
		full, errno := limits.Default(o, l)
		if errno != api.OK {
			t.Fatalf("Default(%+v, %+v): %d", o, l, errno)
		}
		bare := copied(full)
		for i, p := range o.Parts {
			given += len(full.Parts[i].Requests) - len(p.Requests)
			bare.Parts[i].Requests = onlyNames(full.Parts[i].Requests, p.Requests)
			bare.Parts[i].Limits = onlyNames(full.Parts[i].Limits, p.Limits)
		}
		if !same(bare, o) {
			t.Fatalf("Default(%+v, %+v) = %+v: more than amounts that were missing", o, l, full)
		}
		if again, errno := limits.Default(full, l); errno != api.OK || !same(again, full) {
			t.Fatalf("Default(%+v, %+v) = %+v, %d: done again it is another", full, l, again, errno)
		}
	}
	if given < 5000 {
		t.Errorf("only %d requests were given", given)
	}
}

// onlyNames: those amounts of l that was names.
func onlyNames(l, was []api.Amount) []api.Amount {
	return slices.DeleteFunc(slices.Clone(l), func(a api.Amount) bool {
		return !slices.ContainsFunc(was, func(b api.Amount) bool { return a.Name == b.Name })
	})
}

// P16.3: an object is refused just if some inequality holds of some part; what is told is what the first refused part alone is told.
func TestPartsEachByItself(t *testing.T) {
	r := source(4)
	refused := 0
	for range 10000 {
		o, l := anyObject(r), anyLine(r)
		d, errno := limits.Check(o, l)
		var want api.Detail
		var wantErrno api.Errno
		for _, p := range o.Parts {
			if len(refusals(p, l)) == 0 {
				continue
			}
			alone := o
			alone.Parts = []api.Part{p}
			want, wantErrno = limits.Check(alone, l)
			refused++
			break
		}
		if d != want || errno != wantErrno {
			t.Fatalf("Check(%+v, %+v) = %+v, %d, want %+v, %d", o, l, d, errno, want, wantErrno)
		}
	}
	if refused < 1000 || refused > 9000 {
		t.Errorf("%d of 10000 were refused", refused)
	}
}

// P16.4: what Merge tells admits what the line admits, as the same object.
func TestOneRangeForMany(t *testing.T) {
	r := source(5)
	admitted := 0
	for range 20000 {
		o, l := anyObject(r), anyLine(r)
		rules, errno := limits.Merge(l)
		if errno != api.OK {
			t.Fatalf("Merge(%+v): %d", l, errno)
		}
		var one line
		if len(rules) > 0 {
			one = in(limit("/", "m", rules...))
			if again, errno := limits.Merge(one); errno != api.OK || !slices.Equal(again, rules) {
				t.Fatalf("Merge(%+v) = %+v, %d", one, again, errno)
			}
		}
		full, _, errno := limits.Admit(o, l)
		other, _, otherErrno := limits.Admit(o, one)
		if (errno == api.OK) != (otherErrno == api.OK) || !same(full, other) {
			t.Fatalf("%+v: by %+v %+v, %d; by %+v %+v, %d", o, l, full, errno, one, other, otherErrno)
		}
		if errno == api.OK && len(rules) > 0 {
			admitted++
		}
	}
	if admitted < 1000 || admitted > 18000 {
		t.Errorf("%d of 20000 were admitted", admitted)
	}
}

// P16.5: a range behind all others that gives nothing.
func TestMoreRanges(t *testing.T) {
	r := source(6)
	admitted, fewer := 0, 0
	for range 20000 {
		o, l := anyObject(r), anyLine(r)
		more := anyRange(r, pick(r, 1, 3, 6))
		for i := range more.Rules {
			more.Rules[i].Default, more.Rules[i].Request = off, off
		}
		longer := append(slices.Clone(l), []api.LimitRange{more})
		if len(l) > 0 && r.IntN(2) == 0 {
			longer = slices.Clone(l)
			longer[len(l)-1] = append(slices.Clone(l[len(l)-1]), more)
		}
		full, _, errno := limits.Admit(o, l)
		other, _, otherErrno := limits.Admit(o, longer)
		if otherErrno == api.OK && (errno != api.OK || !same(full, other)) {
			t.Fatalf("%+v: by %+v %+v, %d; by %+v %+v", o, l, full, errno, longer, other)
		}
		if otherErrno == api.OK {
			admitted++
		} else if errno == api.OK {
			fewer++
		}
	}
	if admitted < 2000 || fewer < 1000 {
		t.Errorf("%d were admitted still, %d no more", admitted, fewer)
	}
}

// roomy: a list with spare room, which is filled.
func roomy[T any](l []T, fill T) []T {
	room := append(slices.Clone(l), fill, fill, fill)
	return room[:len(l)]
}

func roomyObject(o api.Object) api.Object {
	spare := api.Amount{Name: "spare", Value: 77}
	o.Labels = roomy(o.Labels, api.Label{Key: "spare"})
	o.Parts = roomy(o.Parts, api.Part{Name: "spare", Requests: []api.Amount{spare}})
	for i, p := range o.Parts {
		o.Parts[i].Requests, o.Parts[i].Limits = roomy(p.Requests, spare), roomy(p.Limits, spare)
	}
	return o
}

func roomyLine(l line) line {
	l = roomy(l, []api.LimitRange{limit("/spare", "spare")})
	for i, ranges := range l {
		l[i] = roomy(ranges, limit("/spare", "spare"))
		for k, one := range l[i] {
			l[i][k].Rules = roomy(one.Rules, cpu(7, 7, 7, 7, 7))
		}
	}
	return l
}

// whole tells all that lies in the lists that are handed in, their spare room too.
func whole(o api.Object, l line) string {
	var text strings.Builder
	fmt.Fprintf(&text, "%#v", o.Labels[:cap(o.Labels)])
	for _, p := range o.Parts[:cap(o.Parts)] {
		fmt.Fprintf(&text, "%s %#v %#v", p.Name, p.Requests[:cap(p.Requests)], p.Limits[:cap(p.Limits)])
	}
	for _, ranges := range l[:cap(l)] {
		for _, one := range ranges[:cap(ranges)] {
			fmt.Fprintf(&text, "%s %s %#v", one.Path, one.Name, one.Rules[:cap(one.Rules)])
		}
	}
	return text.String()
}

func TestHandedInStays(t *testing.T) {
	r := source(7)
	for range 3000 {
		o, l := roomyObject(anyObject(r)), roomyLine(anyLine(r))
		before := whole(o, l)
		asked(t, o, l)
		if after := whole(o, l); after != before {
			t.Fatalf("handed in: %s, then %s", before, after)
		}
	}
}

// room: a list with its spare room, by a text of each of its elements.
type room []*string

func roomOf[T any](l []T, text func(*T) *string) room {
	var all room
	l = l[:cap(l)]
	for i := range l {
		all = append(all, text(&l[i]))
	}
	return all
}

func roomsOf(o api.Object) []room {
	amounts := func(l []api.Amount) room { return roomOf(l, func(a *api.Amount) *string { return &a.Name }) }
	rooms := []room{roomOf(o.Labels, func(l *api.Label) *string { return &l.Key }), roomOf(o.Parts, func(p *api.Part) *string { return &p.Name })}
	for _, p := range o.Parts {
		rooms = append(rooms, amounts(p.Requests), amounts(p.Limits))
	}
	return rooms
}

func rulesRoom(l []api.Rule) room {
	return roomOf(l, func(r *api.Rule) *string { return &r.Resource })
}

// apart writes every list full, each with a text of its own: if two share memory, the later text stands in the earlier list.
func apart(rooms []room) bool {
	for i, one := range rooms {
		for _, text := range one {
			*text = fmt.Sprint("list ", i)
		}
	}
	for i, one := range rooms {
		for _, text := range one {
			if *text != fmt.Sprint("list ", i) {
				return false
			}
		}
	}
	return true
}

func TestAnswersAreNew(t *testing.T) {
	r := source(8)
	admitted := 0
	for range 3000 {
		o, l := roomyObject(anyObject(r)), roomyLine(anyLine(r))
		full, _ := limits.Default(o, l)
		again, _ := limits.Default(o, l)
		third, _, errno := limits.Admit(o, l)
		rules, _ := limits.Merge(l)
		more, _ := limits.Merge(l)
		if errno == api.OK {
			admitted++
		}
		rooms := slices.Concat(roomsOf(o), roomsOf(full), roomsOf(again), roomsOf(third), []room{rulesRoom(rules), rulesRoom(more)})
		for _, ranges := range l {
			for _, one := range ranges {
				rooms = append(rooms, rulesRoom(one.Rules))
			}
		}
		if !apart(rooms) {
			t.Fatalf("lists share memory: %+v, %+v", o, l)
		}
	}
	if admitted < 300 {
		t.Errorf("%d were admitted", admitted)
	}
}

// Beside an error every answer is the zero value, and a Detail stands only where one is named.
func TestNothingBesideErrors(t *testing.T) {
	r := source(9)
	for range 10000 {
		o, l := anyObject(r), anyLine(r)
		if r.IntN(3) == 0 {
			spoilt(r, o, l)
		}
		if full, errno := limits.Default(o, l); errno != api.OK && !reflect.ValueOf(full).IsZero() {
			t.Fatalf("Default(%+v, %+v) = %+v, %d", o, l, full, errno)
		}
		full, d, errno := limits.Admit(o, l)
		if errno != api.OK && !reflect.ValueOf(full).IsZero() {
			t.Fatalf("Admit(%+v, %+v) = %+v, %d", o, l, full, errno)
		}
		if named := errno >= api.ErrMin && errno <= api.ErrNoCap; named == (d == api.Detail{}) {
			t.Fatalf("Admit(%+v, %+v) = %+v, %d", o, l, d, errno)
		}
		if errno == api.OK && object.ValidObject(full) != api.OK {
			t.Fatalf("Admit(%+v, %+v) = %+v: not valid", o, l, full)
		}
	}
}

// Empty lists are the same as none.
func TestNilAndEmpty(t *testing.T) {
	empty := api.Object{Path: "/a", Name: "x", Labels: []api.Label{}, Parts: []api.Part{{Name: "main", Requests: []api.Amount{}, Limits: []api.Amount{}}}}
	for _, l := range []line{nil, {}, {nil}, {{}}, {{}, nil}} {
		for _, o := range []api.Object{empty, obj("", "")} {
			if full, _, errno := limits.Admit(o, l); errno != api.OK || !same(full, o) {
				t.Errorf("Admit(%+v, %#v) = %+v, %d", o, l, full, errno)
			}
		}
		becomes(t, empty, append(l, by(cpu(off, off, 1, off, off))...), "cpu 1", "cpu 1")
	}
}

// Path, name, labels, priority, deadline and version make no difference to what is given and judged.
func TestOnlyPartsAreJudged(t *testing.T) {
	r := source(10)
	for range 3000 {
		o, l := anyObject(r), anyLine(r)
		other := anyObject(r)
		other.Parts = o.Parts
		full, d, errno := limits.Admit(o, l)
		otherFull, otherDetail, otherErrno := limits.Admit(other, l)
		if errno != otherErrno || d != otherDetail || !same(api.Object{Parts: full.Parts}, api.Object{Parts: otherFull.Parts}) {
			t.Fatalf("Admit(%+v) = %+v, %+v, %d; Admit(%+v) = %+v, %+v, %d", o, full, d, errno, other, otherFull, otherDetail, otherErrno)
		}
	}
}
