package fsck

import (
	"strings"

	"bursar/api"
	"bursar/dev"
	"bursar/page"
)

// The kinds of pages, as layer 9 numbers them.
const (
	leaf = iota + 1
	inner
	chain
)

const (
	superblocks = 2                    // they lie ahead of the log
	quarter     = api.BlockBytes / 4   // the least size of a page
	top         = api.MaxStamp - 1<<32 // what layer 11 calls Top: no store opens a superblock that has come there
)

// walk: one way through a tree, from its root down.
type walk struct {
	device  *dev.Dev
	super   api.Super
	met     []bool // by block, whether it was visited or stood in a chain
	depth   int    // of the leaf that was visited first; 0: none was
	entries []api.Entry

	outside, again, noPage, thin, astray, uneven, noValue asking
}

// judgeTree asks for the rules of the tree of a valid superblock. All entries of the leaves that were visited: whole ones, if no rule was broken.
func judgeTree(d *dev.Dev, s api.Super, f *findings) []api.Entry {
	w := &walk{
		device:  d,
		super:   s,
		met:     make([]bool, s.Blocks),
		outside: f.rule(ruleOutside),
		again:   f.rule(ruleAgain),
		noPage:  f.rule(ruleNoPage),
		thin:    f.rule(ruleThin),
		astray:  f.rule(ruleAstray),
		uneven:  f.rule(ruleUneven),
		noValue: f.rule(ruleNoValue),
	}
	if s.Root != 0 {
		w.visit(s.Root, 1, bounds{})
	}
	f.rule(ruleMiscounted)(0, int64(len(w.entries)) != s.Count)
	f.rule(ruleSpent)(0, s.Generation == top || s.Epoch == top)
	return w.entries
}

// bounds: between which keys those of a page stand, low with it, high without it. No key is "": as high that is no bound, and as low it needs to be none.
type bounds struct {
	low, high string
}

func (b bounds) hold(key string) bool { return key >= b.low && (b.high == "" || key < b.high) }

// visit goes into the page on a block, and into all below it.
func (w *walk) visit(block, depth int, b bounds) {
	if !w.enter(block) {
		return
	}
	n := w.page(block)
	if w.noPage(block, n.Kind != leaf && n.Kind != inner) {
		return
	}
	w.thin(block, depth > 1 && page.Size(n) < quarter)
	if n.Kind == leaf {
		w.leaf(block, depth, b, n)
		return
	}
	for _, key := range n.Keys {
		w.astray(block, !b.hold(key))
	}
	for i, child := range n.Children {
		below := b
		if i > 0 {
			below.low = n.Keys[i-1]
		}
		if i < len(n.Keys) {
			below.high = n.Keys[i]
		}
		w.visit(child, depth+1, below)
	}
}

// enter tells whether a block may be gone into: it is of the region, and is met for the first time.
func (w *walk) enter(block int) bool {
	if w.outside(block, block < superblocks+w.super.Log || block >= w.super.Blocks) {
		return false
	}
	if w.again(block, w.met[block]) {
		return false
	}
	w.met[block] = true
	return true
}

// page tells the page on a block, the zero Node if there is none.
func (w *walk) page(block int) api.Node {
	b, _ := w.device.Read(block)
	n, _ := page.Decode(b)
	return n
}

// leaf looks at a leaf's own and goes through its chains.
func (w *walk) leaf(block, depth int, b bounds, n api.Node) {
	if w.depth == 0 {
		w.depth = depth
	}
	w.uneven(block, depth != w.depth)
	for i, entry := range n.Entries {
		w.astray(block, !b.hold(entry.Key))
		if n.Chains[i] != 0 {
			entry.Value = w.value(n.Chains[i])
		}
		w.entries = append(w.entries, entry)
	}
}

// value goes through the chain that begins on a block. What it holds, as far as it is gone through.
func (w *walk) value(first int) string {
	var value strings.Builder
	for block := first; block != 0 && value.Len() <= api.MaxValue; {
		if !w.enter(block) {
			return ""
		}
		n := w.page(block)
		if w.noValue(first, n.Kind != chain) {
			return ""
		}
		value.WriteString(n.Data)
		block = n.Next
	}
	w.noValue(first, value.Len() <= api.MaxInline || value.Len() > api.MaxValue)
	return value.String()
}
