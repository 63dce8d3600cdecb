package admit

import (
	"strings"
	"testing"
	"unsafe"

	"bursar/api"
)

// cut tells texts that are pieces of one long text, and whether another is such a piece.
func cut(texts ...string) ([]string, func(string) bool) {
	long := strings.Join(texts, "") + strings.Repeat("?", 1<<10)
	from := uintptr(unsafe.Pointer(unsafe.StringData(long)))
	inside := func(s string) bool {
		at := uintptr(unsafe.Pointer(unsafe.StringData(s)))
		return s != "" && at >= from && at < from+uintptr(len(long))
	}
	var pieces []string
	rest := long
	for _, text := range texts {
		pieces = append(pieces, rest[:len(text)])
		rest = rest[len(text):]
	}
	return pieces, inside
}

func (w *World) texts() []string {
	all, _ := w.nodes.Walk(root)
	for path, quotas := range w.quotas.lists {
		all = append(all, path)
		for _, q := range quotas {
			all = append(all, q.Path, q.Name, q.Hard[0].Name)
		}
	}
	for path, ranges := range w.ranges.lists {
		all = append(all, path)
		for _, l := range ranges {
			all = append(all, l.Path, l.Name, l.Rules[0].Resource)
		}
	}
	for path, objects := range w.objects.lists {
		all = append(all, path)
		for _, o := range objects {
			all = append(all, o.Path, o.Name, o.Labels[0].Key, o.Labels[0].Value, o.Parts[0].Name, o.Parts[0].Requests[0].Name, o.Parts[0].Limits[0].Name)
		}
	}
	for _, u := range w.book.Rows() {
		all = append(all, u.Path, u.Resource)
	}
	return all
}

// A world keeps none of the texts that it was handed, which may be pieces of long ones, and nothing of what is gone.
func TestKeepsNoMoreThanItNeeds(t *testing.T) {
	pieces, inside := cut("/a", "x", "cpu", "main", "key", "value", "requests.cpu")
	path, name, cpu := pieces[0], pieces[1], pieces[2]
	o := api.Object{Path: path, Name: name, Labels: []api.Label{{Key: pieces[4], Value: pieces[5]}}, Parts: []api.Part{{Name: pieces[3], Requests: []api.Amount{{Name: cpu, Value: 1}}}}}
	w := New()
	for range 2 { // what is there already is laid anew
		w.AddNode(path)
		w.SetQuota(api.Quota{Path: path, Name: name, Hard: []api.Amount{{Name: pieces[6], Value: 1}}})
		w.SetLimit(api.LimitRange{Path: path, Name: name, Rules: []api.Rule{{Resource: cpu, Min: -1, Max: -1, Default: 1, Request: -1, Ratio: -1}}})
		w.Create(o, 1)
		w.Update(o, 2, 0)
		w.Try(o, true, 3, 0)
	}
	again, errno := Of(w.Dump())
	if errno != api.OK {
		t.Fatalf("Of: %d", errno)
	}
	for _, one := range []*World{w, again} {
		if len(one.texts()) != 48+2+4+4+8 {
			t.Errorf("%d texts", len(one.texts()))
		}
		for _, text := range one.texts() {
			if inside(text) {
				t.Errorf("%q is held by the text that it was cut from", text)
			}
		}
		one.Delete(path, name, 0)
		if len(one.objects.lists)+len(one.book.Rows()) != 0 {
			t.Errorf("behind the last Delete %v is kept", one.objects.lists)
		}
		one.DropNode(path)
		if len(one.quotas.lists)+len(one.ranges.lists) != 0 {
			t.Errorf("behind the last DropNode %v, %v are kept", one.quotas.lists, one.ranges.lists)
		}
	}
	w.SetQuota(api.Quota{Path: "/", Name: "q", Hard: []api.Amount{{Name: "count"}}})
	w.DropQuota("/", "q")
	if len(w.quotas.lists) != 0 {
		t.Errorf("behind the last DropQuota %v is kept", w.quotas.lists)
	}
}
