package watch

import (
	"strings"
	"testing"
	"unsafe"

	"bursar/api"
)

// A hub keeps nothing of what it has forgotten, nor the texts that it was handed.
func TestKeepsNoMoreThanItNeeds(t *testing.T) {
	text := strings.Repeat("/a/b", 1<<10)
	from := uintptr(unsafe.Pointer(unsafe.StringData(text)))
	h := New(0)
	for version := int64(1); version <= 1000; version++ {
		var l []api.Event
		for range 1 + version*37%128 {
			l = append(l, api.Event{Version: version, Kind: api.KindObject, Path: text[:4], Name: text[5:6]})
		}
		room := h.events[:cap(h.events)]
		if errno := h.Push(l); errno != api.OK {
			t.Fatalf("Push of %d: %d", version, errno)
		}
		if sameEnd(room, h.events) && &room[0] != &h.events[0] {
			t.Fatalf("%v is kept ahead of the events of version %d", room[0], version)
		}
		if cap(h.events) > 4*api.MaxEvents {
			t.Fatalf("room for %d events at version %d", cap(h.events), version)
		}
		for i, e := range h.events[:cap(h.events)] {
			if i >= len(h.events) && e != (api.Event{}) {
				t.Fatalf("%v is kept behind the events of version %d", e, version)
			}
			for _, kept := range []string{e.Path, e.Name} {
				if held := uintptr(unsafe.Pointer(unsafe.StringData(kept))); held >= from && held < from+uintptr(len(text)) {
					t.Fatalf("%q holds on to the text that it was handed", kept)
				}
			}
		}
	}
}

// sameEnd tells whether two lists lie in one piece of memory, wherever in it they begin.
func sameEnd(a, b []api.Event) bool {
	a, b = a[:cap(a)], b[:cap(b)]
	return len(a) > 0 && len(b) > 0 && &a[len(a)-1] == &b[len(b)-1]
}
