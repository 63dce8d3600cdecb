package access

import (
	"strings"
	"testing"
	"unsafe"

	"bursar/api"
)

// A table keeps nothing of what is gone, nor the texts that it was handed.
func TestKeepsNoMoreThanItNeeds(t *testing.T) {
	text := strings.Repeat("/a/b", 1<<10)
	b := api.Binding{Path: text[:4], Name: text[5:6], Subject: text[7:8], Verb: api.Write}
	one, errno := Of([]api.Binding{b})
	if errno != api.OK {
		t.Fatalf("Of: %d", errno)
	}
	two := New()
	for range 2 { // laid again, where one is there already
		if errno := two.Set(b); errno != api.OK {
			t.Fatalf("Set: %d", errno)
		}
	}
	from := uintptr(unsafe.Pointer(unsafe.StringData(text)))
	for _, x := range []*Table{one, two} {
		for at, r := range x.rights {
			for _, kept := range []string{at.path, at.name, r.subject} {
				if held := uintptr(unsafe.Pointer(unsafe.StringData(kept))); held >= from && held < from+uintptr(len(text)) {
					t.Errorf("%q holds on to the text that it was handed", kept)
				}
			}
		}
	}
	one.Drop(b.Path, b.Name)
	two.Leave(b.Path)
	if len(one.rights)+len(two.rights) != 0 {
		t.Errorf("%v and %v are kept", one.rights, two.rights)
	}
}
