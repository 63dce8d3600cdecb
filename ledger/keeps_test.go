package ledger

import (
	"strings"
	"testing"
	"unsafe"

	"bursar/api"
)

// A ledger keeps nothing of what is used no more, nor the texts that it was handed.
func TestKeepsNoMoreThanItNeeds(t *testing.T) {
	l := New()
	text := strings.Repeat("/a/b", 1<<10)
	path := text[:8]
	o := api.Object{Path: path, Parts: []api.Part{{Requests: []api.Amount{{Name: "cpu", Value: 0}, {Name: "mem", Value: 3}}}}}
	for range 2 { // charged again, where the places are there already
		if errno := l.Charge(o); errno != api.OK {
			t.Fatalf("Charge: %d", errno)
		}
	}
	from := uintptr(unsafe.Pointer(unsafe.StringData(text)))
	for at, s := range l.sums {
		if held := uintptr(unsafe.Pointer(unsafe.StringData(at.path))); held >= from && held < from+uintptr(len(text)) {
			t.Errorf("%v holds on to the text that it was handed", at)
		}
		if s == 0 {
			t.Errorf("a sum of 0 is kept at %v", at)
		}
	}
	for range 2 {
		if errno := l.Release(o); errno != api.OK {
			t.Fatalf("Release: %d", errno)
		}
	}
	if len(l.sums) != 0 {
		t.Errorf("behind the last Release %v is kept", l.sums)
	}
}
