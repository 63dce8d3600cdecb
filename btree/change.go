package btree

import (
	"slices"

	"bursar/api"
	"bursar/key"
	"bursar/page"
)

// The parts of a page's size, as layer 9 says them.
const (
	leafHead  = 8
	innerHead = 12
	entryHead = 2
	keyHead   = 5
	chainName = 4
)

// least: what the size of a page must be at least, unless it is the root.
const least = api.BlockBytes / 4

// change: a Put or Delete while it is thought out. Which blocks it takes is known only when all that it must read is read; till then the page that is to lie on number i of them is named by noBlock + i. The blocks of the value's chain are the first of them.
type change struct {
	*reading
	value   string
	chained int        // how many blocks the value's chain takes
	drafts  []api.Node // the new pages, but the chain's
	gone    []int      // the blocks that the tree won't stand on any more
}

// noBlock is above all blocks.
const noBlock = api.MaxBlocks

func (t *Tree) change(value string) *change {
	return &change{reading: t.reading(), value: value, chained: page.Links(value)}
}

// entry tells how the value stands in its leaf.
func (c *change) entry(key string) (api.Entry, int) {
	if c.chained > 0 {
		return api.Entry{Key: key}, noBlock
	}
	return api.Entry{Key: key, Value: c.value}, 0
}

// leave: the tree won't have the chain any more that begins on this block.
func (c *change) leave(first int) {
	for link := range c.links(first) {
		c.gone = append(c.gone, link.block)
	}
}

// needs tells how many blocks the change takes.
func (c *change) needs() int { return c.chained + len(c.drafts) }

// draft notes new pages, and tells the names of their blocks.
func (c *change) draft(pages []api.Node) []int {
	var names []int
	for _, n := range pages {
		names = append(names, noBlock+c.needs())
		c.drafts = append(c.drafts, n)
	}
	return names
}

// climb lets n stand in the place of the path's last page, changes the pages above it as that asks, and tells the new root.
func (c *change) climb(path []found, n api.Node) int {
	for level := len(path) - 1; level >= 0 && c.errno == api.OK; level-- {
		c.gone = append(c.gone, path[level].block)
		if level > 0 {
			n = c.above(path[level-1].node, path[level].block, n)
		}
	}
	return c.top(n)
}

// above tells the inner page above with n in the place of its child on this block. It leans on this: a page that is too small is, together with a neighbour, one that isn't, or one that can be cut.
func (c *change) above(above api.Node, block int, n api.Node) api.Node {
	from := slices.Index(above.Children, block)
	end := from + 1
	switch {
	case size(n) >= least:
	case from > 0:
		from--
		n = join(c.neighbour(above.Children[from], n.Kind), above.Keys[from], n)
	default:
		n = join(n, above.Keys[from], c.neighbour(above.Children[end], n.Kind))
		end++
	}
	pages, keys := cut(n)
	above.Children = slices.Replace(above.Children, from, end, c.draft(pages)...)
	above.Keys = slices.Replace(above.Keys, from, end-1, keys...)
	return above
}

// neighbour reads a page that will be part of a new one.
func (c *change) neighbour(block, kind int) api.Node {
	c.gone = append(c.gone, block)
	return c.page(block, kind)
}

// join tells the page that holds what both hold; behind a read that failed one may be the zero Node.
func join(left api.Node, between string, right api.Node) api.Node {
	n := api.Node{Kind: max(left.Kind, right.Kind)}
	if n.Kind == inner {
		n.Keys = slices.Concat(left.Keys, []string{between}, right.Keys)
		n.Children = slices.Concat(left.Children, right.Children)
		return n
	}
	n.Entries = slices.Concat(left.Entries, right.Entries)
	n.Chains = slices.Concat(left.Chains, right.Chains)
	return n
}

// top tells the root of the tree whose pages come together in n.
func (c *change) top(n api.Node) int {
	switch {
	case n.Kind == leaf && len(n.Entries) == 0:
		return 0
	case n.Kind == inner && len(n.Keys) == 0:
		return n.Children[0]
	}
	pages, keys := cut(n)
	names := c.draft(pages)
	if len(names) > 1 {
		names = c.draft([]api.Node{{Kind: inner, Keys: keys, Children: names}})
	}
	return names[0]
}

// cut tells n alone if it fits, else its two halves and the key between them. What is cut is more than a block by one entry or key at most, or a page with a neighbour below a quarter: so, whatever the sizes of its parts, both halves fit and are a quarter full.
func cut(n api.Node) ([]api.Node, []string) {
	switch {
	case size(n) <= api.BlockBytes:
		return []api.Node{n}, nil
	case n.Kind == inner:
		return cutInner(n)
	}
	return cutLeaf(n)
}

// cutLeaf cuts so that the sizes of the halves are as near as can be. The entries beside the cut are in order, also if somebody edited one of two neighbours: it lies within the greater one. So there is a key between them.
func cutLeaf(n api.Node) ([]api.Node, []string) {
	at, ahead, behind := middle(sizes(n))
	if ahead < behind {
		at++
	}
	left := api.Node{Kind: leaf, Entries: n.Entries[:at], Chains: n.Chains[:at]}
	right := api.Node{Kind: leaf, Entries: n.Entries[at:], Chains: n.Chains[at:]}
	between, _ := key.Between(n.Entries[at-1].Key, n.Entries[at].Key)
	return []api.Node{left, right}, []string{between}
}

// cutInner cuts at the key in which the middle lies: it goes up.
func cutInner(n api.Node) ([]api.Node, []string) {
	at, _, _ := middle(sizes(n))
	left := api.Node{Kind: inner, Keys: n.Keys[:at], Children: n.Children[:at+1]}
	right := api.Node{Kind: inner, Keys: n.Keys[at+1:], Children: n.Children[at+1:]}
	return []api.Node{left, right}, []string{n.Keys[at]}
}

// middle tells in which of them the middle of all lies, and how much lies ahead of it and behind it.
func middle(sizes []int) (at, ahead, behind int) {
	for _, size := range sizes[1:] {
		behind += size
	}
	for behind > ahead+sizes[at] {
		ahead += sizes[at]
		at++
		behind -= sizes[at]
	}
	return at, ahead, behind
}

// size tells a page's size; page.Size would refuse the names of blocks that are yet to be taken.
func size(n api.Node) int {
	all := leafHead
	if n.Kind == inner {
		all = innerHead
	}
	for _, size := range sizes(n) {
		all += size
	}
	return all
}

// sizes tells how much each entry of a leaf, or each key of an inner page with the child behind it, adds to its size.
func sizes(n api.Node) []int {
	var sizes []int
	for i, entry := range n.Entries {
		size := entryHead + len(entry.Key) + len(entry.Value)
		if n.Chains[i] != 0 {
			size += chainName
		}
		sizes = append(sizes, size)
	}
	for _, key := range n.Keys {
		sizes = append(sizes, keyHead+len(key))
	}
	return sizes
}

// on tells the change's new pages, in the order of the blocks that were taken for them.
func (c *change) on(blocks []int) ([]api.Node, api.Errno) {
	pages, errno := page.Chain(c.value, blocks[:c.chained])
	for _, n := range c.drafts {
		n.Chains = onBlocks(n.Chains, blocks)
		n.Children = onBlocks(n.Children, blocks)
		pages = append(pages, n)
	}
	return pages, errno
}

func onBlocks(names, blocks []int) []int {
	var named []int
	for _, name := range names {
		named = append(named, onBlock(name, blocks))
	}
	return named
}

// onBlock tells the block that a name stands for, which may be one itself.
func onBlock(name int, blocks []int) int {
	if name < noBlock {
		return name
	}
	return blocks[name-noBlock]
}
