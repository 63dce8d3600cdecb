package fsck_test

import (
	"cmp"
	"maps"
	"math/big"
	"slices"
	"strings"

	"bursar/api"
	"bursar/dev"
	"bursar/label"
	"bursar/object"
	"bursar/page"
	"bursar/scope"
	"bursar/store"
	"bursar/wal"
)

// The chapter's rules said over again: of a tree first where one comes, step by step, then each rule by itself over all steps.

// step: a block that is to be visited, or is named by a chain.
type step struct {
	block, depth int
	low, high    *string
	chain        int    // the first block of the chain that names it; 0: it is to be visited
	ahead        string // the data of the chain's pages ahead of it
	refused      int    // the rule by which one doesn't come there: 1 or 2
	node         api.Node
}

type paper struct {
	d     *dev.Dev
	s     api.Super
	steps []step
}

func byKey(a, b api.Entry) int { return cmp.Compare(a.Key, b.Key) }

func sameKey(a, b api.Entry) bool { return a.Key == b.Key }

// onPaper goes through the tree of a superblock.
func onPaper(d *dev.Dev, s api.Super) *paper {
	w := &paper{d: d, s: s}
	var todo []step // the next one is the last
	if s.Root != 0 {
		todo = append(todo, step{block: s.Root, depth: 1})
	}
	met := map[int]bool{}
	for len(todo) > 0 {
		now := todo[len(todo)-1]
		todo = todo[:len(todo)-1]
		switch {
		case now.block < 2+s.Log || now.block > s.Blocks-1:
			now.refused = 1
		case met[now.block]:
			now.refused = 2
		default:
			met[now.block] = true
			b, _ := d.Read(now.block)
			now.node, _ = page.Decode(b)
		}
		w.steps = append(w.steps, now)
		next := nextOf(now)
		slices.Reverse(next)
		todo = append(todo, next...)
	}
	return w
}

// nextOf: where one goes from a step, ahead of all else.
func nextOf(now step) []step {
	n := now.node
	var next []step
	switch {
	case now.refused != 0:
	case now.chain != 0:
		data := now.ahead + n.Data
		if n.Kind == 3 && n.Next != 0 && len(data) <= api.MaxValue {
			next = append(next, step{block: n.Next, chain: now.chain, ahead: data})
		}
	case n.Kind == 1:
		for _, first := range n.Chains {
			if first != 0 {
				next = append(next, step{block: first, chain: first})
			}
		}
	case n.Kind == 2:
		for i, child := range n.Children {
			one := step{block: child, depth: now.depth + 1, low: now.low, high: now.high}
			if i > 0 {
				one.low = &n.Keys[i-1]
			}
			if i < len(n.Keys) {
				one.high = &n.Keys[i]
			}
			next = append(next, one)
		}
	}
	return next
}

// visited: the steps at which there is a leaf or an inner page, that isn't a chain's.
func (w *paper) visited() []step {
	return slices.DeleteFunc(slices.Clone(w.steps), func(s step) bool {
		return s.refused != 0 || s.chain != 0 || s.node.Kind != 1 && s.node.Kind != 2
	})
}

func (w *paper) leaves() []step {
	return slices.DeleteFunc(w.visited(), func(s step) bool { return s.node.Kind != 1 })
}

// count: how many entries the leaves have.
func (w *paper) count() int64 {
	n := 0
	for _, l := range w.leaves() {
		n += len(l.node.Entries)
	}
	return int64(n)
}

// beyond tells whether a key of a page stands beyond its bounds.
func (s step) beyond() bool {
	keys := slices.Clone(s.node.Keys)
	for _, e := range s.node.Entries {
		keys = append(keys, e.Key)
	}
	return slices.ContainsFunc(keys, func(key string) bool {
		return s.low != nil && key < *s.low || s.high != nil && key >= *s.high
	})
}

// noValue tells whether a chain's step shows that it holds no value.
func (s step) noValue() bool {
	if s.chain == 0 || s.refused != 0 {
		return false
	}
	data := len(s.ahead + s.node.Data)
	return s.node.Kind != 3 || data > api.MaxValue || s.node.Next == 0 && data < 65
}

type notes map[api.Problem]bool

func (n notes) note(rule, place int, broken bool) {
	if broken {
		n[api.Problem{Rule: rule, Block: place}] = true
	}
}

func (n notes) list() []api.Problem {
	return slices.SortedFunc(maps.Keys(n), func(a, b api.Problem) int {
		return cmp.Or(a.Rule-b.Rule, a.Block-b.Block)
	})
}

func (w *paper) notes() notes {
	n := notes{}
	for _, s := range w.steps {
		n.note(1, s.block, s.refused == 1)
		n.note(2, s.block, s.refused == 2)
		n.note(3, s.block, s.refused == 0 && s.chain == 0 && s.node.Kind != 1 && s.node.Kind != 2)
		n.note(7, s.chain, s.noValue())
	}
	for _, s := range w.visited() {
		n.note(4, s.block, s.depth != 1 && page.Size(s.node) < 128)
		n.note(5, s.block, s.beyond())
	}
	leaves := w.leaves()
	for _, l := range leaves {
		n.note(6, l.block, l.depth != leaves[0].depth)
	}
	n.note(8, 0, w.count() != w.s.Count)
	n.note(9, 0, w.s.Generation == 1<<60-4294967296 || w.s.Epoch == 1<<60-4294967296)
	return n
}

func (w *paper) problems() []api.Problem { return w.notes().list() }

// entries: of a tree without problems.
func (w *paper) entries() map[string]string {
	values := map[int]string{}
	for _, s := range w.steps {
		if s.chain != 0 {
			values[s.chain] = s.ahead + s.node.Data
		}
	}
	all := map[string]string{}
	for _, l := range w.leaves() {
		for i, e := range l.node.Entries {
			all[e.Key] = e.Value + values[l.node.Chains[i]]
		}
	}
	return all
}

// logOnPaper tells the good records of a log, and what is wrong with the next one.
func logOnPaper(d *dev.Dev, s api.Super) ([][]api.Change, []api.Problem) {
	_, records, _ := wal.Open(d, 2, s.Log, s.From, s.Epoch+1)
	var all [][]api.Change
	for i, record := range records {
		version, l, errno := store.Unrecord(record)
		if errno != api.OK {
			return all, p(11, i+1)
		}
		if version-s.Version != int64(i)+1 {
			return all, p(12, i+1)
		}
		all = append(all, l)
	}
	return all, nil
}

// checkOnPaper tells all problems of the superblock that counts.
func checkOnPaper(d *dev.Dev, s api.Super) []api.Problem {
	w := onPaper(d, s)
	records, wrong := logOnPaper(d, s)
	if all := append(w.problems(), wrong...); len(all) > 0 {
		return all
	}
	state := w.entries()
	for _, l := range records {
		for _, c := range l {
			delete(state, c.Key)
			if !c.Gone {
				state[c.Key] = c.Value
			}
		}
	}
	var l []api.Entry
	for _, key := range slices.Sorted(maps.Keys(state)) {
		l = append(l, entry(key, state[key]))
	}
	return recordsOnPaper(l)
}

// The records: what an entry is, then each rule by itself, with sums that are reckoned anew for each question.

type told struct {
	right      bool // it breaks neither 21 nor 22
	kind       int
	path, name string
	quota      api.Quota
	object     api.Object
	uses       []api.Amount
	charged    bool
}

func isRecord(e api.Entry) (told, bool) {
	kind, path, name, errno := object.Unkey(e.Key)
	if errno != api.OK {
		return told{}, false
	}
	r := told{kind: kind, path: path, name: name}
	again, errno := "", api.Errno(0)
	switch kind {
	case api.KindNode:
		return r, e.Value == "" && path != "/"
	case api.KindQuota:
		r.quota, _ = object.DecodeQuota(e.Value)
		r.quota.Path, r.quota.Name = path, name
		again, errno = object.EncodeQuota(r.quota)
	case api.KindLimit:
		l, _ := object.DecodeLimit(e.Value)
		l.Path, l.Name = path, name
		again, errno = object.EncodeLimit(l)
	case api.KindObject:
		r.object, _ = object.DecodeObject(e.Value)
		r.object.Path, r.object.Name = path, name
		r.uses, _ = scope.Uses(r.object)
		again, errno = object.EncodeObject(r.object)
	case api.KindBinding:
		b, _ := object.DecodeBinding(e.Value)
		b.Path, b.Name = path, name
		again, errno = object.EncodeBinding(b)
	}
	return r, errno == api.OK && again == e.Value
}

// sumOf: what the charged ones of some records use together.
func sumOf(records []told, path string, s api.Scope, name string) *big.Int {
	sum := new(big.Int)
	for _, r := range records {
		if !r.charged || !label.Under(r.path, path) || !scope.In(r.object, s) {
			continue
		}
		for _, use := range r.uses {
			if use.Name == name {
				sum.Add(sum, big.NewInt(use.Value))
			}
		}
	}
	return sum
}

// fits tells whether no sum comes above the most with one object more.
func fits(records []told, o api.Object) bool {
	uses, errno := scope.Uses(o)
	if errno != api.OK {
		return false
	}
	// No sum is above the root's in the scope of all.
	for _, use := range uses {
		sum := sumOf(records, "/", api.Scope{}, use.Name)
		if !sum.Add(sum, big.NewInt(use.Value)).IsInt64() {
			return false
		}
	}
	return true
}

func recordsOnPaper(l []api.Entry) []api.Problem {
	n := notes{}
	var all []told
	for i, e := range l {
		r, is := isRecord(e)
		behind := i == 0 || strings.Compare(l[i-1].Key, e.Key) < 0
		n.note(21, i+1, !behind)
		n.note(22, i+1, !is)
		r.right = is && behind
		r.charged = r.right && r.kind == api.KindObject && fits(all, r.object)
		n.note(25, i+1, r.right && r.kind == api.KindObject && !r.charged)
		all = append(all, r)
	}
	for i, r := range all {
		if !r.right {
			continue
		}
		home := r.path
		if r.kind == api.KindNode {
			home = r.path[:max(1, strings.LastIndexByte(r.path, '/'))]
		}
		n.note(23, i+1, home != "/" && !slices.ContainsFunc(all, func(o told) bool {
			return o.right && o.kind == api.KindNode && o.path == home
		}))
		held := 0
		for _, o := range all[:i] {
			if o.right && o.kind == r.kind && o.path == r.path {
				held++
			}
		}
		n.note(24, i+1, held >= 16 && (r.kind == api.KindQuota || r.kind == api.KindLimit || r.kind == api.KindBinding))
		for _, a := range r.quota.Hard {
			n.note(26, i+1, r.kind == api.KindQuota && sumOf(all, r.path, r.quota.Scope, a.Name).Cmp(big.NewInt(a.Value)) > 0)
		}
	}
	return n.list()
}

// atMost: the first 64.
func atMost(l []api.Problem) []api.Problem { return l[:min(64, len(l))] }
