package btree

import (
	"iter"
	"slices"
	"sort"
	"strings"

	"bursar/api"
	"bursar/dev"
	"bursar/page"
)

// The kinds of pages, as layer 9 numbers them.
const (
	leaf = iota + 1
	inner
	chain
)

// found: a page, where it lies, and how many pages it is from the root down to it.
type found struct {
	block, depth int
	node         api.Node
}

// reading: what one call reads. Its first error stays: behind it nothing is read, and every way through the tree ends. Edited pages may lead round in a circle, so those that are read are counted.
type reading struct {
	d      *dev.Dev
	unread int // how many more pages may be read
	errno  api.Errno
}

func (t *Tree) reading() *reading {
	r := &reading{d: t.d, unread: t.d.Blocks()}
	if t.d.Down() {
		r.errno = api.ErrDown
	}
	return r
}

// fail notes an error, unless there was one before.
func (r *reading) fail(errno api.Errno) {
	if r.errno == api.OK {
		r.errno = errno
	}
}

// page reads a page of one of these kinds; the zero Node if there is none, or an error came before.
func (r *reading) page(block int, kinds ...int) api.Node {
	if r.errno != api.OK {
		return api.Node{}
	}
	n, errno := r.decode(block)
	if errno == api.OK && !slices.Contains(kinds, n.Kind) {
		errno = api.ErrCorrupt
	}
	if errno != api.OK {
		r.fail(errno)
		return api.Node{}
	}
	return n
}

func (r *reading) decode(block int) (api.Node, api.Errno) {
	if r.d.Down() {
		return api.Node{}, api.ErrDown
	}
	if r.unread == 0 {
		return api.Node{}, api.ErrCorrupt
	}
	r.unread--
	b, errno := r.d.Read(block)
	if errno != api.OK {
		return api.Node{}, api.ErrCorrupt
	}
	n, errno := page.Decode(b)
	if errno != api.OK {
		return api.Node{}, api.ErrCorrupt
	}
	return n, api.OK
}

// path reads the pages from the root down to the leaf where a key stands or would stand; none of an empty tree.
func (r *reading) path(root int, key string) []found {
	var path []found
	for block := root; block != 0; {
		n := r.page(block, leaf, inner)
		if r.errno != api.OK {
			return nil
		}
		path = append(path, found{block: block, node: n})
		block = 0
		if n.Kind == inner {
			block = n.Children[childAt(n, key)]
		}
	}
	return path
}

// last tells the leaf that a path leads to (one without entries, if there is none), where in it the key stands or would stand, and whether it does.
func last(path []found, key string) (api.Node, int, bool) {
	if len(path) == 0 {
		return api.Node{Kind: leaf}, 0, false
	}
	n := path[len(path)-1].node
	at := entryAt(n, key)
	return n, at, at < len(n.Entries) && n.Entries[at].Key == key
}

// childAt tells below which child of an inner page a key belongs.
func childAt(n api.Node, key string) int {
	return sort.Search(len(n.Keys), func(i int) bool { return n.Keys[i] > key })
}

// entryAt tells where in a leaf the first entry stands whose key is this or above.
func entryAt(n api.Node, key string) int {
	return sort.Search(len(n.Entries), func(i int) bool { return n.Entries[i].Key >= key })
}

// pages goes through the page on a block and those below it, but not those whose keys are all below from; each ahead of what is below it.
func (r *reading) pages(block, depth int, from string) iter.Seq[found] {
	return func(yield func(found) bool) {
		if block == 0 {
			return
		}
		n := r.page(block, leaf, inner)
		if r.errno != api.OK || !yield(found{block, depth, n}) {
			return
		}
		for _, child := range n.Children[childAt(n, from):] {
			for p := range r.pages(child, depth+1, from) {
				if !yield(p) {
					return
				}
			}
		}
	}
}

// entries goes through the entries from a key on, as they stand in the leaves: each with the first block of its chain.
func (r *reading) entries(root int, from string) iter.Seq2[api.Entry, int] {
	return func(yield func(api.Entry, int) bool) {
		for p := range r.pages(root, 1, from) {
			for i := entryAt(p.node, from); i < len(p.node.Entries); i++ {
				if !yield(p.node.Entries[i], p.node.Chains[i]) {
					return
				}
			}
		}
	}
}

// whole shows note each page of the tree, the chains' too.
func (r *reading) whole(root int, note func(found)) {
	for p := range r.pages(root, 1, "") {
		note(p)
		for _, first := range p.node.Chains {
			for link := range r.links(first) {
				note(link)
			}
		}
	}
}

// links goes through the pages of the chain that begins on this block, 0: it has none.
func (r *reading) links(first int) iter.Seq[found] {
	return func(yield func(found) bool) {
		for block := first; block != 0; {
			n := r.page(block, chain)
			if r.errno != api.OK || !yield(found{block: block, node: n}) {
				return
			}
			block = n.Next
		}
	}
}

// value tells the value of an entry that stands so in its leaf.
func (r *reading) value(entry api.Entry, first int) string {
	if first == 0 {
		return entry.Value
	}
	var value strings.Builder
	for link := range r.links(first) {
		value.WriteString(link.node.Data)
		if value.Len() > api.MaxValue {
			break
		}
	}
	if value.Len() <= api.MaxInline || value.Len() > api.MaxValue {
		r.fail(api.ErrCorrupt)
	}
	return value.String()
}
