package quota_test

import (
	"fmt"
	"math"
	"math/big"
	"math/rand/v2"
	"slices"
	"strings"
	"testing"

	"bursar/api"
	"bursar/ledger"
	"bursar/object"
	"bursar/quota"
)

// anyScopes: some that are none among them, some twice.
func anyScopes(r *rand.Rand) []api.Scope {
	var l []api.Scope
	for range pick(r, 0, 1, 2, 4) {
		l = append(l, pick(r, anyScope(r), anyScope(r), api.Scope{Kind: pick(r, -1, 0, 6, math.MaxInt), Arg: pick(r, 1, -1, 10)}))
	}
	return l
}

// P18.1: every call is what the chapter's words say, and each of its answers comes often.
func TestAnyLedgerLineAndObject(t *testing.T) {
	r := source(1)
	seen := map[api.Errno]int{}
	for range 30000 {
		wild := r.IntN(2) == 0
		living, l := anyLiving(r, wild), anyLine(r, wild)
		now := anyObject(r, wild)
		_, errno := asked(t, living, l, anyOld(r, living, wild), now)
		seen[errno]++
		for _, errno := range told(t, living, l, pick(r, scopesOf(now), anyScopes(r)), pick(r, hards...)) {
			if errno != api.OK {
				seen[errno]++
			}
		}
	}
	for _, errno := range []api.Errno{api.OK, api.ErrOver, api.ErrUnset, api.ErrQuota, api.ErrBelow} {
		if seen[errno] < 300 {
			t.Errorf("%d was answered %d times", errno, seen[errno])
		}
	}
}

func wildText(r *rand.Rand) string {
	return pick(r, "/", "/a", "x", "cpu", "count", "requests.cpu", "", "?", "A", "a/b", "\x00", "\xff", strings.Repeat("x", 33), strings.Repeat("/x", 33))
}

func wildNumber(r *rand.Rand) int64 {
	return pick[int64](r, math.MinInt64, -2, -1, 0, 1, 9, 10, 1<<60, 1<<60+1, most)
}

// spoiltObject: one thing of an object is another.
func spoiltObject(r *rand.Rand, o api.Object) api.Object {
	o = copied(o)
	p := &o.Parts[r.IntN(len(o.Parts))]
	switch r.IntN(6) {
	case 0:
		o.Path = wildText(r)
	case 1:
		o.Name = wildText(r)
	case 2:
		o.Priority = int(wildNumber(r))
	case 3:
		p.Name = wildText(r)
	case 4:
		*pick(r, &o.Deadline, &o.Version) = wildNumber(r)
	case 5:
		list := pick(r, &p.Requests, &p.Limits)
		*list = append(*list, api.Amount{Name: wildText(r), Value: wildNumber(r)})
	}
	return o
}

func spoiltQuota(r *rand.Rand, q api.Quota) api.Quota {
	q.Hard = slices.Clone(q.Hard)
	a := &q.Hard[r.IntN(len(q.Hard))]
	switch r.IntN(5) {
	case 0:
		q.Path = wildText(r)
	case 1:
		q.Name = wildText(r)
	case 2:
		*pick(r, &q.Scope.Kind, &q.Scope.Arg) = int(wildNumber(r))
	case 3:
		a.Name = wildText(r)
	case 4:
		a.Value = wildNumber(r)
	}
	return q
}

func spoiltLine(r *rand.Rand, l line) line {
	l = append(slices.Clone(l), nil)
	at := r.IntN(len(l))
	l[at] = append(slices.Clone(l[at]), spoiltQuota(r, anyQuota(r, true)))
	return l
}

func TestSpoiltObjectsAndQuotas(t *testing.T) {
	r := source(2)
	seen := map[api.Errno]int{}
	for range 20000 {
		living, l, now := anyLiving(r, true), anyLine(r, true), anyObject(r, true)
		old := anyOld(r, living, true)
		switch r.IntN(4) {
		case 0:
			now = spoiltObject(r, now)
		case 1:
			old = objects(spoiltObject(r, anyObject(r, true)))
		case 2:
			l = spoiltLine(r, l)
		case 3:
			old = append(slices.Clone(old), objects(anyObject(r, true), spoiltObject(r, now))...)
		}
		_, errno := asked(t, living, l, old, now)
		seen[errno]++
		told(t, living, l, anyScopes(r), pick(r, append([]string{wildText(r)}, hards...)...))
	}
	for _, errno := range []api.Errno{api.OK, api.ErrArg, api.ErrObject} {
		if seen[errno] < 500 {
			t.Errorf("%d was answered %d times", errno, seen[errno])
		}
	}
}

// P18.2: refused just if some amount of some quota isn't said, or is passed; the line's order changes what is told, not whether.
func TestRefusedJustIf(t *testing.T) {
	r := source(3)
	refused := 0
	for range 10000 {
		living, l, now := anyLiving(r, false), anyLine(r, false), anyObject(r, false)
		old := anyOld(r, living, false)
		want := len(refusals(living, l, old, now)) > 0
		book := charged(t, living...)
		_, errno := quota.Fits(book, l, old, now)
		if got := errno == api.ErrUnset || errno == api.ErrQuota; got != want || !got && errno != api.OK {
			t.Fatalf("of %+v: Fits(%+v, %+v, %+v): %d, want refused: %v", living, l, old, now, errno, want)
		}
		shuffled := slices.Concat(l...)
		r.Shuffle(len(shuffled), func(i, j int) { shuffled[i], shuffled[j] = shuffled[j], shuffled[i] })
		if _, other := quota.Fits(book, up(shuffled...), old, now); (other == api.OK) == want {
			t.Fatalf("of %+v: Fits(%+v, %+v, %+v): %d, in another order %d", living, l, old, now, errno, other)
		}
		some := slices.ContainsFunc(shuffled, func(q api.Quota) bool {
			_, errno := quota.Fits(book, up(q), old, now)
			return errno != api.OK
		})
		if some != want {
			t.Fatalf("of %+v: no quota of %+v alone refuses %+v as all do", living, l, now)
		}
		if want {
			refused++
		}
	}
	if refused < 2000 || refused > 8000 {
		t.Errorf("%d of 10000 were refused", refused)
	}
}

// step: an object comes, changes into another (maybe elsewhere) or goes; only if Fits lets it. What was done: 0 nothing, 1 came, 2 changed, 3 went.
func step(t *testing.T, r *rand.Rand, book *ledger.Ledger, quotas []api.Quota, living []api.Object) ([]api.Object, int) {
	t.Helper()
	at := r.IntN(len(living) + 3)
	if at < len(living) && r.IntN(3) == 0 {
		if errno := book.Release(living[at]); errno != api.OK {
			t.Fatalf("Release: %d", errno)
		}
		return slices.Delete(slices.Clone(living), at, at+1), 3
	}
	now := anyObject(r, r.IntN(5) == 0)
	if at >= len(living) {
		if _, errno := quota.Fits(book, lineAt(quotas, now.Path), nil, now); errno != api.OK || book.Charge(now) != api.OK {
			return living, 0
		}
		return append(slices.Clone(living), now), 1
	}
	if _, errno := quota.Fits(book, lineAt(quotas, now.Path), living[at:at+1], now); errno != api.OK || book.Change(living[at], now) != api.OK {
		return living, 0
	}
	living = slices.Clone(living)
	living[at] = now
	return living, 2
}

// P18.3: what Fits lets through brings nothing above any quota, at whatever path it stands.
func TestNothingAboveAnyQuota(t *testing.T) {
	done, full := [4]int{}, 0
	for seed := range uint64(400) {
		r := source(1000 + seed)
		living := anyLiving(r, false)
		book := charged(t, living...)
		var quotas []api.Quota
		for range 1 + r.IntN(8) {
			if one := anyQuota(r, false); len(overUsed(t, book, living, []api.Quota{one})) == 0 {
				quotas = append(quotas, one)
			}
		}
		for range 60 {
			var what int
			living, what = step(t, r, book, quotas, living)
			done[what]++
			if over := overUsed(t, book, living, quotas); len(over) > 0 {
				t.Fatalf("seed %d: above %+v: %+v", seed, over, living)
			}
			full += brimming(book, quotas)
		}
	}
	if slices.Min(done[:]) < 1000 || full < 300 {
		t.Errorf("done: %v; full to the brim: %d", done, full)
	}
}

// brimming: how many amounts are used up, of those that aren't 0.
func brimming(book *ledger.Ledger, quotas []api.Quota) int {
	n := 0
	for _, q := range quotas {
		for _, one := range quota.Lines(book, q) {
			if one.Hard > 0 && one.Hard == one.Used {
				n++
			}
		}
	}
	return n
}

// overUsed: those quotas that are passed; Below must tell just these.
func overUsed(t *testing.T, book *ledger.Ledger, living []api.Object, quotas []api.Quota) []api.Quota {
	t.Helper()
	var over []api.Quota
	for _, q := range quotas {
		want, wantErrno := wantBelow(living, q)
		if d, errno := quota.Below(book, q); d != want || errno != wantErrno {
			t.Fatalf("of %+v: Below(%+v) = %+v, %d, want %+v, %d", living, q, d, errno, want, wantErrno)
		}
		if wantErrno != api.OK {
			over = append(over, q)
		}
	}
	return over
}

// saysAll: whether an object says all names of those quotas that it lies in.
func saysAll(o api.Object, l line) bool {
	for _, q := range slices.Concat(l...) {
		if liesIn(o, q.Scope) && slices.ContainsFunc(q.Hard, func(a api.Amount) bool { return len(lacks(o, a.Name)) > 0 }) {
			return false
		}
	}
	return true
}

// P18.4: an object fits in the place of itself.
func TestInItsOwnPlace(t *testing.T) {
	fitted := 0
	for seed := range uint64(6000) {
		r := source(10000 + seed)
		living := anyLiving(r, r.IntN(3) == 0)
		book := charged(t, living...)
		for _, o := range living {
			var quotas []api.Quota
			for range 3 {
				q := anyQuota(r, false)
				for i, a := range q.Hard { // often just what is used
					if used := usedBy(living, q, a.Name).Int64(); used < most {
						q.Hard[i].Value = used + pick[int64](r, 0, 0, 1)
					} else {
						q.Hard[i].Value = used
					}
				}
				quotas = append(quotas, q)
			}
			l := lineAt(quotas, o.Path)
			if !saysAll(o, l) {
				continue
			}
			if d, errno := quota.Fits(book, l, objects(o), o); d != (api.Detail{}) || errno != api.OK {
				t.Fatalf("of %+v: Fits(%+v) of %+v in its own place = %+v, %d", living, l, o, d, errno)
			}
			if len(slices.Concat(l...)) > 0 {
				fitted++
			}
		}
	}
	if fitted < 1000 {
		t.Errorf("%d fitted", fitted)
	}
}

// P18.5: what fits uses at most what is left; what uses no more, and says all, fits.
func TestLeftTellsWhatFits(t *testing.T) {
	fits, refused := 0, 0
	for seed := range uint64(10000) {
		r := source(20000 + seed)
		living := anyLiving(r, false)
		book := charged(t, living...)
		l, now := anyLine(r, false), anyObject(r, false)
		_, errno := quota.Fits(book, l, nil, now)
		within := true
		for _, name := range append(hardNames(now), hards...) {
			left := quota.Left(book, l, scopesOf(now), name)
			if left >= 0 && uses(now, name).Cmp(big.NewInt(left)) > 0 {
				within = false
			}
		}
		below := slices.ContainsFunc(slices.Concat(l...), func(q api.Quota) bool {
			_, errno := quota.Below(book, q)
			return errno != api.OK
		})
		if errno == api.OK && !within {
			t.Fatalf("of %+v: by %+v %+v fits, but uses more than is left", living, l, now)
		}
		if errno != api.OK && within && saysAll(now, l) && !below {
			t.Fatalf("of %+v: by %+v %+v uses no more than is left: %d", living, l, now, errno)
		}
		if errno == api.OK {
			fits++
		} else if !within && saysAll(now, l) && !below {
			refused++
		}
	}
	if fits < 1000 || refused < 150 {
		t.Errorf("%d fit, %d use more than is left", fits, refused)
	}
}

// P18.5: at the bound: just what is left fits, one more doesn't.
func TestLeftIsTheBound(t *testing.T) {
	met := 0
	for seed := range uint64(3000) {
		r := source(40000 + seed)
		living := anyLiving(r, r.IntN(2) == 0)
		book := charged(t, living...)
		quotas := []api.Quota{hard("/a", "q", "requests.cpu 0"), scoped(hard("/", "p", "requests.cpu 0"), api.ScopeNotBest, 0), scoped(hard("/a", "o", "requests.cpu 0"), api.ScopePriority, 5)}
		for i := range quotas {
			quotas[i].Hard[0].Value = r.Int64N(5000)
		}
		now := asks("/a", "z", "cpu 0")
		now.Priority = pick(r, 0, 5)
		l := lineAt(quotas, "/a")
		if slices.ContainsFunc(quotas, func(q api.Quota) bool { _, errno := quota.Below(book, q); return errno != api.OK }) {
			continue
		}
		left := quota.Left(book, l, scopesOf(now), "requests.cpu")
		now.Parts[0].Requests[0].Value = left
		if _, errno := quota.Fits(book, l, nil, now); left < 0 || errno != api.OK {
			t.Fatalf("of %+v: by %+v %d are left, but %d", living, l, left, errno)
		}
		now.Parts[0].Requests[0].Value++
		if _, errno := quota.Fits(book, l, nil, now); errno != api.ErrQuota {
			t.Fatalf("of %+v: by %+v %d are left, and one more: %d", living, l, left, errno)
		}
		met++
	}
	if met < 300 {
		t.Errorf("%d were asked", met)
	}
}

// P18.6: where an object fits, one that asks for less fits too.
func TestLessFitsToo(t *testing.T) {
	fitted := 0
	for seed := range uint64(20000) {
		r := source(60000 + seed)
		wild := r.IntN(3) == 0
		living := anyLiving(r, wild)
		book := charged(t, living...)
		l, now := anyLine(r, wild), anyObject(r, wild)
		old := anyOld(r, living, wild)
		if _, errno := quota.Fits(book, l, old, now); errno != api.OK {
			continue
		}
		less := copied(now)
		less.Name, less.Version, less.Labels = "other", 3, []api.Label{{Key: "k"}}
		for _, p := range less.Parts {
			for _, list := range [][]api.Amount{p.Requests, p.Limits} {
				for i, a := range list {
					list[i].Value = pick(r, a.Value, a.Value/2, max(a.Value-1, 0), 0)
				}
			}
		}
		if d, errno := quota.Fits(book, l, old, less); d != (api.Detail{}) || errno != api.OK {
			t.Fatalf("of %+v: by %+v %+v fits, but %+v: %+v, %d", living, l, now, less, d, errno)
		}
		if len(slices.Concat(l...)) > 0 {
			fitted++
		}
	}
	if fitted < 2000 {
		t.Errorf("%d fitted", fitted)
	}
}

// Name, labels and version of an object make no difference.
func TestOnlyWhatCountsIsJudged(t *testing.T) {
	r := source(4)
	for range 3000 {
		living, l, now := anyLiving(r, false), anyLine(r, false), anyObject(r, false)
		old := anyOld(r, living, false)
		book := charged(t, living...)
		other := now
		other.Name, other.Version, other.Labels = "other", 77, []api.Label{{Key: "k", Value: "v"}}
		d, errno := quota.Fits(book, l, old, now)
		if e, otherErrno := quota.Fits(book, l, old, other); d != e || errno != otherErrno {
			t.Fatalf("Fits(%+v) = %+v, %d; Fits(%+v) = %+v, %d", now, d, errno, other, e, otherErrno)
		}
		if now.Path = pick(r, paths...); len(old) == 0 {
			if e, otherErrno := quota.Fits(book, l, old, now); d != e || errno != otherErrno {
				t.Fatalf("Fits(%+v) = %+v, %d; Fits(%+v) = %+v, %d", other, d, errno, now, e, otherErrno)
			}
		}
	}
}

// roomy: a list with spare room, which is filled.
func roomy[T any](l []T, fill T) []T {
	room := append(slices.Clone(l), fill, fill, fill)
	return room[:len(l)]
}

func roomyObject(o api.Object) api.Object {
	spare := api.Amount{Name: "spare", Value: 77}
	o.Labels = roomy(o.Labels, api.Label{Key: "spare"})
	o.Parts = roomy(o.Parts, api.Part{Name: "spare"})
	for i, p := range o.Parts {
		o.Parts[i].Requests, o.Parts[i].Limits = roomy(p.Requests, spare), roomy(p.Limits, spare)
	}
	return o
}

func roomyLine(l line) line {
	l = roomy(l, []api.Quota{{Name: "spare"}})
	for i, quotas := range l {
		l[i] = roomy(quotas, api.Quota{Name: "spare"})
		for k, q := range l[i] {
			l[i][k].Hard = roomy(q.Hard, api.Amount{Name: "spare"})
		}
	}
	return l
}

// whole tells all that lies in the lists that are handed in, their spare room too.
func whole(l line, scopes []api.Scope, list []api.Object) string {
	var text strings.Builder
	fmt.Fprintf(&text, "%v", scopes[:cap(scopes)])
	for _, quotas := range l[:cap(l)] {
		for _, q := range quotas[:cap(quotas)] {
			fmt.Fprintf(&text, "%s %s %v %v", q.Path, q.Name, q.Scope, q.Hard[:cap(q.Hard)])
		}
	}
	for _, o := range list[:cap(list)] {
		fmt.Fprintf(&text, "%+v %v", o, o.Labels[:cap(o.Labels)])
		for _, p := range o.Parts[:cap(o.Parts)] {
			fmt.Fprintf(&text, "%s %v %v", p.Name, p.Requests[:cap(p.Requests)], p.Limits[:cap(p.Limits)])
		}
	}
	return text.String()
}

// What is handed in stays as it was, the ledger too; what is answered is nobody else's.
func TestNothingIsChangedOrShared(t *testing.T) {
	r := source(5)
	for range 3000 {
		living, l := anyLiving(r, true), roomyLine(anyLine(r, true))
		book := charged(t, living...)
		rows := book.Rows()
		now := roomyObject(anyObject(r, true))
		old := roomy(anyOld(r, living, true), api.Object{Name: "spare"})
		for i := range old {
			old[i] = roomyObject(old[i])
		}
		scopes := roomy(scopesOf(now), api.Scope{Kind: 77})
		list := func() string { return whole(l, scopes, old) + whole(nil, nil, objects(now)) }
		before := list()
		quota.Fits(book, l, old, now)
		quota.Left(book, l, scopes, "requests.cpu")
		for _, q := range slices.Concat(l...) {
			quota.Below(book, q)
			first, second := quota.Lines(book, q), quota.Lines(book, q)
			for i := range first[:cap(first)] {
				first[:cap(first)][i] = api.Line{Resource: "written", Hard: 7, Used: 7}
			}
			if !slices.Equal(second, wantLines(living, q)) || !slices.Equal(quota.Lines(book, q), second) {
				t.Fatalf("Lines(%+v) shares memory: %v", q, second)
			}
		}
		if after := list(); after != before {
			t.Fatalf("handed in: %s, then %s", before, after)
		}
		if !slices.Equal(book.Rows(), rows) {
			t.Fatalf("the ledger had %v, and has %v", rows, book.Rows())
		}
	}
}

// A Detail stands just where one is named, and names what is in the line.
func TestDetailOnlyWhereNamed(t *testing.T) {
	r := source(6)
	for range 10000 {
		living, l, now := anyLiving(r, true), anyLine(r, true), anyObject(r, true)
		if r.IntN(4) == 0 {
			now = spoiltObject(r, now)
		}
		d, errno := quota.Fits(charged(t, living...), l, anyOld(r, living, true), now)
		if named := errno == api.ErrUnset || errno == api.ErrQuota; named == (d == api.Detail{}) || (d.Part != "") != (errno == api.ErrUnset) {
			t.Fatalf("Fits(%+v, %+v) = %+v, %d", l, now, d, errno)
		}
		if errno == api.OK && object.ValidObject(now) != api.OK {
			t.Fatalf("Fits(%+v, %+v): OK", l, now)
		}
	}
}

// A ledger from which what was never charged is released tells its sums still.
func TestLedgerWithOtherReleases(t *testing.T) {
	book := charged(t, asks("/a", "x", "cpu 300"), asks("/a", "y", "cpu 400"))
	for _, o := range objects(asks("/a", "z", "cpu 650"), asks("/a", "z", "cpu 50")) {
		if errno := book.Release(o); errno != api.OK {
			t.Fatalf("Release: %d", errno)
		}
	}
	if lines := quota.Lines(book, q); len(lines) != 1 || lines[0].Used != 0 {
		t.Errorf("Lines = %v", lines)
	}
	if _, errno := quota.Fits(book, up(q), nil, asks("/a", "z", "cpu 1000")); errno != api.OK {
		t.Errorf("Fits: %d", errno)
	}
	left(t, book, up(q), []api.Scope{{}}, "requests.cpu", 1000)
}
