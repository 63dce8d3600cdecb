package store

import (
	"bursar/anchor"
	"bursar/api"
	"bursar/btree"
	"bursar/dev"
	"bursar/space"
)

// superblocks lie ahead of the log, and that ahead of the tree.
const superblocks = 2

// treeFrom tells the first block of the tree's region.
func treeFrom(log int) int { return superblocks + log }

// Format lays an empty store on a device, with so many blocks for the log.
func Format(d *dev.Dev, log int) api.Errno { return Lay(d, log, 0, nil) }

// Lay lays a store of this version with these entries.
func Lay(d *dev.Dev, log int, version int64, l []api.Entry) api.Errno {
	if d == nil {
		return api.ErrArg
	}
	super := api.Super{
		Generation: 1,
		Epoch:      1,
		Blocks:     d.Blocks(),
		Log:        log,
		From:       api.Mark{Stamp: 1, At: 0},
		Version:    version,
	}
	if !anchor.Valid(super, d.Blocks()) || !rising(l) {
		return api.ErrArg
	}
	if !fitting(l) {
		return api.ErrLong
	}
	pages, errno := drawn(super, l)
	if errno != api.OK {
		return errno
	}
	super.Root, super.Count = pages.root, int64(len(l))
	return pages.lay(d, super)
}

// rising tells whether keys rise strictly, and the first has bytes: it must be above "" too.
func rising(l []api.Entry) bool {
	last := ""
	for _, entry := range l {
		if entry.Key <= last {
			return false
		}
		last = entry.Key
	}
	return true
}

// fitting tells whether all keys and values are as short as they must be.
func fitting(l []api.Entry) bool {
	for _, entry := range l {
		if len(entry.Key) > api.MaxKey || len(entry.Value) > api.MaxValue {
			return false
		}
	}
	return true
}

// drawing: a tree on a device of its own, from which it is copied: whether it finds room must be known ahead of the first act.
type drawing struct {
	paper  *dev.Dev
	root   int
	blocks []int
}

// drawn draws the tree of a store's entries.
func drawn(super api.Super, l []api.Entry) (drawing, api.Errno) {
	paper, errno := dev.New(super.Blocks)
	if errno != api.OK {
		return drawing{}, errno
	}
	all, errno := space.New(super.Blocks, treeFrom(super.Log), nil)
	if errno != api.OK {
		return drawing{}, errno
	}
	tree, errno := btree.Open(paper, all, 0)
	if errno != api.OK {
		return drawing{}, errno
	}
	for _, entry := range l {
		if errno := tree.Put(entry.Key, entry.Value); errno != api.OK {
			return drawing{}, errno
		}
		// Or its cache would keep every page that was ever written.
		paper.Flush()
	}
	blocks, errno := tree.Blocks()
	return drawing{paper, tree.Root(), blocks}, errno
}

// lay does Lay's acts, in its order: in each moment the device has the old store, none, or the new one.
func (p drawing) lay(d *dev.Dev, super api.Super) api.Errno {
	if errno := forget(d); errno != api.OK {
		return errno
	}
	if errno := blank(d, logBlocks(super.Log)...); errno != api.OK {
		return errno
	}
	if errno := p.copyTo(d); errno != api.OK {
		return errno
	}
	return anchor.Write(d, super)
}

// forget lets no superblock count any more; while one does it is the newest, so it goes last.
func forget(d *dev.Dev) api.Errno {
	_, newest, errno := anchor.Read(d)
	if errno == api.ErrCorrupt {
		return blank(d, 0, 1)
	}
	if errno != api.OK {
		return errno
	}
	if errno := blank(d, 1-newest); errno != api.OK {
		return errno
	}
	return blank(d, newest)
}

// blank lays zeros into blocks, and flushes.
func blank(d *dev.Dev, blocks ...int) api.Errno {
	for _, block := range blocks {
		if errno := d.Write(block, make([]byte, api.BlockBytes)); errno != api.OK {
			return errno
		}
	}
	return d.Flush()
}

func logBlocks(log int) []int {
	var blocks []int
	for i := range log {
		blocks = append(blocks, superblocks+i)
	}
	return blocks
}

// copyTo brings the tree's pages to a device, and flushes, if there are any.
func (p drawing) copyTo(d *dev.Dev) api.Errno {
	if len(p.blocks) == 0 {
		return api.OK
	}
	for _, block := range p.blocks {
		b, errno := p.paper.Read(block)
		if errno != api.OK {
			return errno
		}
		if errno := d.Write(block, b); errno != api.OK {
			return errno
		}
	}
	return d.Flush()
}
