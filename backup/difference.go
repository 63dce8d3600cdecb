package backup

import (
	"bursar/api"
	"bursar/pack"
	"bursar/sum"
)

// difference tells what leads from the stream old of a state to the stream now of another.
func difference(was, is state, old, now []byte) []byte {
	changes := between(was.entries, is.entries)
	b := form(func(w *pack.Writer) {
		w.Byte(differenceKind)
		w.Byte(layout)
		w.Uint(uint64(was.version))
		mark(w, old)
		w.Uint(uint64(is.version))
		mark(w, now)
		w.Uint(uint64(len(changes)))
	})
	for _, c := range changes {
		b = append(b, form(func(w *pack.Writer) { change(w, c) })...)
	}
	return sum.Seal(b)
}

// mark lays the mark of a stream.
func mark(w *pack.Writer, stream []byte) {
	for _, c := range stream[len(stream)-markBytes:] {
		w.Byte(c)
	}
}

func change(w *pack.Writer, c api.Change) {
	w.Bool(c.Gone)
	w.Text(c.Key)
	if !c.Gone {
		w.Text(c.Value)
	}
}

// changesOf tells the changes that a difference names, their keys rising, and the version that they lead to. Whether it is the difference between two streams they must tell themselves.
func changesOf(diff []byte) (int64, []api.Change, api.Errno) {
	r, errno := opened(diff, differenceKind)
	if errno != api.OK {
		return 0, nil, errno
	}
	r.version()
	r.mark()
	version := r.version()
	r.mark()
	var changes []api.Change
	for n := r.Uint(); n > 0 && !r.failed(); n-- {
		c := api.Change{Gone: r.Bool(), Key: r.key()}
		if !c.Gone {
			c.Value = r.value()
		}
		changes = append(changes, c)
	}
	if !r.ended() {
		return 0, nil, api.ErrBad
	}
	return version, changes, api.OK
}

// between tells the changes from some entries to others.
func between(old, now []api.Entry) []api.Change {
	var changes []api.Change
	for _, entry := range now {
		for len(old) > 0 && old[0].Key < entry.Key {
			changes = append(changes, api.Change{Key: old[0].Key, Gone: true})
			old = old[1:]
		}
		if len(old) == 0 || old[0] != entry {
			changes = append(changes, api.Change{Key: entry.Key, Value: entry.Value})
		}
		if len(old) > 0 && old[0].Key == entry.Key {
			old = old[1:]
		}
	}
	for _, entry := range old {
		changes = append(changes, api.Change{Key: entry.Key, Gone: true})
	}
	return changes
}

// changed tells what entries are behind changes.
func changed(entries []api.Entry, changes []api.Change) []api.Entry {
	var all []api.Entry
	for _, c := range changes {
		for len(entries) > 0 && entries[0].Key < c.Key {
			all = append(all, entries[0])
			entries = entries[1:]
		}
		if len(entries) > 0 && entries[0].Key == c.Key {
			entries = entries[1:]
		}
		if !c.Gone {
			all = append(all, api.Entry{Key: c.Key, Value: c.Value})
		}
	}
	return append(all, entries...)
}
