package fsck_test

import (
	"fmt"
	"math"
	"math/rand/v2"
	"slices"
	"strings"
	"testing"

	"bursar/api"
	"bursar/dev"
	"bursar/page"
	"bursar/store"
)

// rules: how often each was told.
type rules map[int]int

func (c rules) note(l []api.Problem) {
	for _, one := range l {
		c[one.Rule]++
	}
	if len(l) == 0 {
		c[0]++
	}
}

// want asks that each was told often enough; 0 stands for none at all.
func (c rules) want(t *testing.T, least int, numbers ...int) {
	t.Helper()
	for _, rule := range numbers {
		if c[rule] < least {
			t.Errorf("rule %d was told %d times", rule, c[rule])
		}
	}
}

// agree holds Tree against the paper.
func agree(t *testing.T, d *dev.Dev, s api.Super) []api.Problem {
	t.Helper()
	w := onPaper(d, s)
	l, n := tree(t, d, s)
	same(t, "Tree", l, atMost(w.problems()))
	if n != w.count() {
		t.Errorf("Tree: %d entries, want %d", n, w.count())
	}
	return l
}

func anyKeys(r *rand.Rand, n int) []string {
	var keys []string
	for range n {
		keys = append(keys, string(rune('a'+r.IntN(8)))+strings.Repeat(pick(r, "", "x", "y"), pick(r, 0, 1, 20, 60, 119)))
	}
	slices.Sort(keys)
	return slices.Compact(keys)
}

// anyBlock: mostly of a region that ends at 24, so that one comes to the same ones often.
func anyBlock(r *rand.Rand) int {
	return pick(r, 10+r.IntN(14), 10+r.IntN(14), 10+r.IntN(14), 10+r.IntN(54), pick(r, 1, 9, 64, 4095))
}

// anyPage: any that is one, if it fits.
func anyPage(r *rand.Rand) api.Node {
	n := api.Node{Kind: 1 + r.IntN(3)}
	switch n.Kind {
	case 1:
		for _, key := range anyKeys(r, 1+r.IntN(4)) {
			first, value := 0, text(r.IntN(65))
			if r.IntN(3) == 0 {
				first, value = anyBlock(r), ""
			}
			n.Entries, n.Chains = append(n.Entries, entry(key, value)), append(n.Chains, first)
		}
	case 2:
		n.Keys = anyKeys(r, 1+r.IntN(3))
		for len(n.Children) <= len(n.Keys) {
			if block := anyBlock(r); !slices.Contains(n.Children, block) {
				n.Children = append(n.Children, block)
			}
		}
	default:
		n.Data = text(pick(r, 1, 30, 64, 65, 500, 500))
		if r.IntN(3) > 0 {
			n.Next = anyBlock(r)
		}
	}
	return n
}

// P25.1: pages that name one another at random.
func TestAnyPages(t *testing.T) {
	counts := rules{}
	for seed := range uint64(6000) {
		r := source(seed)
		d := device(t, 64)
		for block := 10; block < 10+pick(r, 4, 14, 54); block++ {
			if b, errno := page.Encode(anyPage(r)); errno == api.OK && r.IntN(9) > 0 {
				d.Edit(block, 0, b)
			}
		}
		s := super(anyBlock(r), 1)
		if s.Root < 10 || s.Root > 63 {
			s.Root = 10
		}
		if r.IntN(2) == 0 {
			s.Count = max(1, onPaper(d, s).count())
		}
		counts.note(agree(t, d, s))
		if t.Failed() {
			t.Fatalf("seed %d", seed)
		}
	}
	counts.want(t, 100, 0, 1, 2, 3, 4, 5, 7, 8)
}

// grown: a store's tree over some entries, with long values among them; the blocks from 140 on are free.
func grown(t *testing.T, r *rand.Rand) *dev.Dev {
	t.Helper()
	var l []api.Entry
	for i := range pick(r, 3, 40, 90) {
		l = append(l, entry(fmt.Sprintf("k%04d", i)+text(r.IntN(80)), text(pick(r, 0, 10, 64, 10, 64, 10, 65, 700))))
	}
	if r.IntN(3) == 0 {
		l = append(l, entry("l", text(8192)))
	}
	return laid(t, 150, 8, 5, l...)
}

// deepen lays an inner page where a leaf was, and the leaf's entries below it; if there are too few of them, nothing.
func deepen(t *testing.T, d *dev.Dev, block int, n api.Node) {
	t.Helper()
	if n.Kind != 1 || len(n.Entries) < 2 {
		return
	}
	half := len(n.Entries) / 2
	lay(t, d, 140, api.Node{Kind: 1, Entries: n.Entries[:half], Chains: n.Chains[:half]})
	lay(t, d, 141, api.Node{Kind: 1, Entries: n.Entries[half:], Chains: n.Chains[half:]})
	lay(t, d, block, inner([]string{n.Entries[half].Key}, 140, 141))
}

// pagesOf: the pages of a tree, by their blocks, and of those of chains the first blocks.
func pagesOf(d *dev.Dev, s api.Super) (map[int]api.Node, map[int]int) {
	pages, firsts := map[int]api.Node{}, map[int]int{}
	for _, one := range onPaper(d, s).steps {
		pages[one.block] = one.node
		if one.chain != 0 {
			firsts[one.block] = one.chain
		}
	}
	return pages, firsts
}

func blocksOf(pages map[int]api.Node) []int {
	var blocks []int
	for block := range pages {
		blocks = append(blocks, block)
	}
	slices.Sort(blocks)
	return blocks
}

// bend changes something of a page so that it is one still, if it fits.
func bend(r *rand.Rand, n api.Node, blocks []int) api.Node {
	n.Entries, n.Chains, n.Keys, n.Children = slices.Clone(n.Entries), slices.Clone(n.Chains), slices.Clone(n.Keys), slices.Clone(n.Children)
	other := pick(r, pick(r, blocks...), pick(r, blocks...), r.IntN(150), 1+r.IntN(4095))
	switch n.Kind {
	case 1:
		i := r.IntN(len(n.Entries))
		switch r.IntN(6) {
		case 0:
			n.Entries[i].Key += "x"
		case 1:
			n.Entries[i].Key = pick(r, "a", "z", n.Entries[i].Key[:len(n.Entries[i].Key)-1])
		case 2:
			n.Entries, n.Chains = slices.Delete(n.Entries, i, i+1), slices.Delete(n.Chains, i, i+1)
		case 3:
			n.Entries[i].Value, n.Chains[i] = "", other
		case 4:
			n.Entries, n.Chains = n.Entries[:1], n.Chains[:1]
		case 5:
			n.Entries[i].Value, n.Chains[i] = text(r.IntN(65)), 0
		}
	case 2:
		i := r.IntN(len(n.Keys))
		switch r.IntN(4) {
		case 0:
			n.Keys[i] += pick(r, "x", "\x00")
		case 1:
			n.Keys[i] = pick(r, "a", "z", n.Keys[i][:len(n.Keys[i])-1])
		case 2:
			n.Children[r.IntN(len(n.Children))] = other
		case 3:
			n.Keys, n.Children = slices.Delete(n.Keys, i, i+1), slices.Delete(n.Children, i, i+1)
		}
	case 3:
		if r.IntN(2) == 0 {
			n.Next = pick(r, 0, other)
		} else {
			n.Data = text(pick(r, 1, 64, 65, 192, 193, 500))
		}
	}
	return n
}

// P25.1: a store's tree, a few pages of which somebody laid anew or spoilt.
func TestBentTrees(t *testing.T) {
	counts := rules{}
	for seed := range uint64(600) {
		r := source(10000 + seed)
		d := grown(t, r)
		s := counting(t, d)
		if l := agree(t, d, s); len(l) != 0 {
			t.Fatalf("seed %d: %v", seed, l)
		}
		pages, _ := pagesOf(d, s)
		blocks := blocksOf(pages)
		for range 1 + r.IntN(3) {
			block := pick(r, blocks...)
			switch r.IntN(9) {
			case 0: // one page on two blocks
				b, _ := d.Raw(pick(r, blocks...))
				d.Edit(block, 0, b)
			case 1:
				deepen(t, d, block, pages[block])
			case 2:
				d.Edit(block, r.IntN(512), []byte{byte(r.IntN(256))})
			default:
				if b, errno := page.Encode(bend(r, pages[block], blocks)); errno == api.OK {
					d.Edit(block, 0, b)
				}
			}
		}
		if r.IntN(3) > 0 {
			s.Count = max(1, onPaper(d, s).count()+pick[int64](r, 0, 0, 0, 1, -1))
		}
		put(t, d, s)
		l := agree(t, d, s)
		counts.note(l)
		same(t, "Check", check(t, d), atMost(checkOnPaper(d, s)))
		if t.Failed() {
			t.Fatalf("seed %d: %v", seed, l)
		}
	}
	counts.want(t, 10, 0, 1, 2, 3, 4, 5, 6, 7, 8)
}

// P25.1: any bytes, with any superblock that is valid: every call ends, and answers what the paper says.
func TestAnyBytes(t *testing.T) {
	for seed := range uint64(400) {
		r := source(20000 + seed)
		medium := make([]byte, 512*(64+r.IntN(40)))
		for i := range medium {
			medium[i] = byte(r.IntN(256))
		}
		d, errno := dev.Of(medium)
		if errno != api.OK {
			t.Fatal(errno)
		}
		s := api.Super{Generation: 1 + r.Int64N(top), Epoch: 1 + r.Int64N(top), Blocks: d.Blocks(), Log: 8 + r.IntN(10), Version: r.Int64N(top)}
		s.From.Stamp = 1 + r.Int64N(top)
		s.From.At = int((s.From.Stamp - 1) % int64(s.Log))
		s.Root = 2 + s.Log + r.IntN(40)
		s.Count = 1 + r.Int64N(top)
		same(t, "any bytes", agree(t, d, s), p(3, s.Root, 8, 0))
		if n, l := logOf(t, d, s); n != 0 || len(l) != 0 {
			t.Errorf("Log of any bytes: %d, %v", n, l)
		}
		put(t, d, s)
		same(t, "Check of any bytes", check(t, d), p(3, s.Root, 8, 0))
	}
}

// The records of a state, some of which somebody spoilt.

var places = []string{"/", "/a", "/a/b", "/a/b/c", "/ab", "/a-b", "/b"}

func anyQuota(r *rand.Rand) api.Quota {
	q := hard(pick(r, places...), pick(r, "x", "y", "z"), pick(r, "count", "count", "limits.cpu", "requests.cpu"), pick[int64](r, 0, 999, 1000, 2000, 3000, 10000, 1<<40, math.MaxInt64))
	if r.IntN(3) == 0 {
		q.Hard = append(q.Hard, api.Amount{Name: "requests.mem", Value: pick[int64](r, 0, 5, 100)})
	}
	q.Scope.Kind = r.IntN(6)
	if q.Scope.Kind == api.ScopePriority {
		q.Scope.Arg = r.IntN(3)
	}
	return q
}

func anyObject(r *rand.Rand) api.Object {
	o := obj(pick(r, places...), pick(r, "w", "x", "y", "z"), r.IntN(3), pick[int64](r, -1, 0, 5, 1000, 1<<62, math.MaxInt64))
	if r.IntN(3) == 0 {
		o.Parts[0].Requests = append(o.Parts[0].Requests, api.Amount{Name: "mem", Value: pick[int64](r, 0, 1, 100)})
	}
	if r.IntN(4) == 0 {
		o.Parts[0].Limits = []api.Amount{{Name: "cpu", Value: pick[int64](r, 1, math.MaxInt64)}}
	}
	o.Deadline, o.Version = pick[int64](r, 0, 0, 7), pick[int64](r, 0, 5, api.MaxStamp)
	if r.IntN(4) == 0 {
		o.Labels = []api.Label{{Key: "k", Value: "v"}}
	}
	return o
}

func anyRecord(t *testing.T, r *rand.Rand) api.Entry {
	t.Helper()
	switch r.IntN(9) {
	case 0, 1:
		return quotaEntry(t, anyQuota(r))
	case 2:
		return limitEntry(t, giving(pick(r, places...), pick(r, "x", "y"), r.Int64N(9)))
	case 3:
		return bindingEntry(t, bound(pick(r, places...), pick(r, "x", "y"), pick(r, "ann", "root"), r.IntN(4)))
	case 4, 5, 6:
		return nodeEntry(t, pick(r, places[1:]...))
	}
	return objectEntry(t, anyObject(r))
}

// anyRecords: mostly those of a state, by their keys.
func anyRecords(t *testing.T, r *rand.Rand) []api.Entry {
	t.Helper()
	var l []api.Entry
	for _, path := range places[1:] {
		if r.IntN(12) > 0 {
			l = append(l, nodeEntry(t, path))
		}
	}
	for range r.IntN(12) {
		l = append(l, anyRecord(t, r))
	}
	if r.IntN(4) == 0 {
		path, kind := pick(r, places...), r.IntN(3)
		l = append(l, several(14+r.IntN(4), func(name string) api.Entry {
			switch kind {
			case 0:
				return quotaEntry(t, hard(path, name, "count", 1<<40))
			case 1:
				return limitEntry(t, giving(path, name, 1))
			}
			return bindingEntry(t, bound(path, name, "ann", 1))
		})...)
	}
	slices.SortStableFunc(l, byKey)
	return slices.CompactFunc(l, sameKey)
}

// spoil lets a list be another, whose keys may stand in any order.
func spoil(r *rand.Rand, l []api.Entry) []api.Entry {
	l = slices.Clone(l)
	if len(l) == 0 {
		return []api.Entry{entry("", "")}
	}
	i, j := r.IntN(len(l)), r.IntN(len(l))
	switch r.IntN(8) {
	case 0:
		l[i], l[j] = l[j], l[i]
	case 1:
		return slices.Insert(l, i, l[j])
	case 2:
		return slices.Insert(l, i, entry(pick(r, "", "x", l[j].Key+"x", "zz"), ""))
	case 3:
		l[i].Value = l[j].Value
	case 4:
		l[i].Key = l[j].Key
	case 5:
		return slices.Delete(l, i, i+1)
	case 6:
		l[i].Key = bent(r, l[i].Key)
	case 7:
		l[i].Value = bent(r, l[i].Value)
	}
	return l
}

// bent: a text with another byte somewhere.
func bent(r *rand.Rand, s string) string {
	if s == "" {
		return "x"
	}
	at := r.IntN(len(s))
	return s[:at] + string(rune(r.IntN(128))) + s[at+1:]
}

// P25.1: Records of any list is what the paper says.
func TestAnyRecords(t *testing.T) {
	counts := rules{}
	for seed := range uint64(8000) {
		r := source(30000 + seed)
		l := anyRecords(t, r)
		for range r.IntN(4) {
			l = spoil(r, l)
		}
		got := judged(t, l)
		counts.note(got)
		same(t, "Records", got, atMost(recordsOnPaper(l)))
		if t.Failed() {
			t.Fatalf("seed %d: %q", seed, l)
		}
	}
	counts.want(t, 100, 0, 21, 22, 23, 24, 25, 26)
}

// P25.1, P25.3: what a store holds, in its tree and in its log, is judged as the list that it is; a server opens over it just if there is no problem.
func TestAnyStates(t *testing.T) {
	counts := rules{}
	for seed := range uint64(1500) {
		r := source(50000 + seed)
		state := map[string]string{}
		var first []api.Entry
		l := anyRecords(t, r)
		if r.IntN(4) == 0 {
			l = spoil(r, l)
		}
		for _, e := range l {
			if _, twice := state[e.Key]; !twice && e.Key != "" && r.IntN(20) > 0 {
				first = append(first, e)
				state[e.Key] = e.Value
			}
		}
		d := laid(t, 128, 16, 5, first...)
		s, errno := store.Open(d)
		if errno != api.OK {
			t.Fatal(errno)
		}
		for range r.IntN(5) {
			var changes []api.Change
			for _, e := range anyRecords(t, r) {
				if r.IntN(6) == 0 {
					c := set(e)
					if r.IntN(2) == 0 {
						c = gone(e)
					}
					changes = append(changes, c)
				}
			}
			if len(changes) == 0 {
				continue
			}
			if errno := s.Apply(changes); errno != api.OK {
				t.Fatal(errno)
			}
			for _, c := range changes {
				delete(state, c.Key)
				if !c.Gone {
					state[c.Key] = c.Value
				}
			}
			if r.IntN(4) == 0 {
				s.Checkpoint()
			}
		}
		if errno := s.Sync(); errno != api.OK {
			t.Fatal(errno)
		}
		l = nil
		for key, value := range state {
			l = append(l, entry(key, value))
		}
		slices.SortFunc(l, byKey)
		want := atMost(recordsOnPaper(l))
		counts.note(want)
		same(t, "Check", check(t, d), want)
		opens(t, d, len(want) == 0)
		if t.Failed() {
			t.Fatalf("seed %d: %q", seed, l)
		}
	}
	counts.want(t, 20, 0, 22, 23, 24, 25, 26)
}
