package store

import (
	"bursar/anchor"
	"bursar/api"
)

// Checkpoint brings all that was applied into the tree.
func (s *Store) Checkpoint() api.Errno {
	if errno := s.Sync(); errno != api.OK {
		return errno
	}
	next := s.super
	next.Generation++
	next.Version = s.version
	next.From = s.log.End()
	if !anchor.Valid(next, s.device.Blocks()) {
		return api.ErrArg
	}
	return s.met(s.settle(next))
}

// settle does a checkpoint whose superblock is to be next; where it is refused all is as it was.
func (s *Store) settle(next api.Super) (errno api.Errno) {
	defer func() {
		if errno != api.OK {
			s.space.Back()
			s.toRoot()
		}
	}()
	if errno := s.bring(); errno != api.OK {
		return errno
	}
	next.Root, next.Count = s.tree.Root(), int64(len(s.keys))
	// A tree that has lost all its pages isn't that of these keys: somebody edited it.
	if !anchor.Valid(next, s.device.Blocks()) {
		return api.ErrCorrupt
	}
	if errno := s.device.Flush(); errno != api.OK {
		return errno
	}
	if errno := anchor.Write(s.device, next); errno != api.OK {
		return errno
	}
	s.super = next
	s.space.Commit()
	s.log.Cut(next.From)
	clear(s.overlay)
	return api.OK
}

// bring brings the overlay into the tree. What goes goes first, so that the tree is never greater than it must be.
func (s *Store) bring() api.Errno {
	changes := s.changed("", "")
	for _, c := range changes {
		if !c.Gone {
			continue
		}
		if _, errno := s.tree.Delete(c.Key); errno != api.OK {
			return errno
		}
	}
	for _, c := range changes {
		if c.Gone {
			continue
		}
		if errno := s.tree.Put(c.Key, c.Value); errno != api.OK {
			return errno
		}
	}
	return api.OK
}
