package store

import (
	"bursar/anchor"
	"bursar/api"
	"bursar/btree"
	"bursar/dev"
	"bursar/space"
	"bursar/wal"
)

// Open recovers what lies on a device.
func Open(d *dev.Dev) (*Store, api.Errno) {
	super, _, errno := anchor.Read(d)
	if errno != api.OK {
		return nil, errno
	}
	s := &Store{
		device:  d,
		super:   super,
		version: super.Version,
		overlay: map[string]api.Change{},
		keys:    map[string]struct{}{},
	}
	for _, step := range []func() api.Errno{s.findBlocks, s.findEntries, s.findRecords, s.begin} {
		if errno := step(); errno != api.OK {
			return nil, errno
		}
	}
	return s, api.OK
}

// findBlocks finds which blocks the tree stands on. The space refuses those that stand in it twice, or outside its region.
func (s *Store) findBlocks() api.Errno {
	first := treeFrom(s.super.Log)
	s.space, _ = space.New(s.super.Blocks, first, nil)
	s.toRoot()
	blocks, errno := s.tree.Blocks()
	if errno != api.OK {
		return errno
	}
	s.space, errno = space.New(s.super.Blocks, first, blocks)
	if errno != api.OK {
		return api.ErrCorrupt
	}
	s.toRoot()
	return api.OK
}

// toRoot lets the tree be the one that the last superblock names.
func (s *Store) toRoot() { s.tree, _ = btree.Open(s.device, s.space, s.super.Root) }

// findEntries goes through the tree's entries.
func (s *Store) findEntries() api.Errno {
	last := ""
	for key := range s.tree.All() {
		if key <= last {
			return api.ErrCorrupt
		}
		s.keys[key] = struct{}{}
		last = key
	}
	if errno := s.tree.Err(); errno != api.OK {
		return errno
	}
	if int64(len(s.keys)) != s.super.Count {
		return api.ErrCorrupt
	}
	return api.OK
}

// findRecords does again what the log says.
func (s *Store) findRecords() api.Errno {
	log, records, errno := wal.Open(s.device, superblocks, s.super.Log, s.super.From, s.super.Epoch+1)
	if errno != api.OK {
		return errno
	}
	for _, record := range records {
		version, l, errno := Unrecord(record)
		if errno != api.OK || version != s.version+1 {
			return api.ErrCorrupt
		}
		s.become(l)
	}
	s.log = log
	return api.OK
}

// begin writes the superblock of this opening: what the log is told from now on has an epoch of its own.
func (s *Store) begin() api.Errno {
	s.super.Generation++
	s.super.Epoch++
	if !anchor.Valid(s.super, s.device.Blocks()) {
		return api.ErrCorrupt
	}
	return anchor.Write(s.device, s.super)
}
