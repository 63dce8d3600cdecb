package fsck

import (
	"bursar/api"
	"bursar/label"
	"bursar/ledger"
	"bursar/object"
)

const root = "/"

// record: an entry that is a record of the domain's, and its place in the list.
type record struct {
	place, kind int
	path        string
	quota       api.Quota  // if it is one
	object      api.Object // if it is one
}

// judgeRecords asks for the rules of a list of entries.
func judgeRecords(l []api.Entry, f *findings) {
	right := rightOnes(l, f)
	judgeHomes(right, f)
	judgeNumbers(right, f)
	judgeUse(right, f)
}

// rightOnes tells the records that stand in order and are some; the other rules look at these alone.
func rightOnes(l []api.Entry, f *findings) []record {
	unordered, noRecord := f.rule(ruleUnordered), f.rule(ruleNoRecord)
	var right []record
	for i, entry := range l {
		place := i + 1
		r, is := recordOf(entry)
		wrongPlace := unordered(place, i > 0 && entry.Key <= l[i-1].Key)
		if noRecord(place, !is) || wrongPlace {
			continue
		}
		r.place = place
		right = append(right, r)
	}
	return right
}

// recordOf tells the record that an entry is, without its place, and whether it is one.
func recordOf(entry api.Entry) (record, bool) {
	kind, path, name, errno := object.Unkey(entry.Key)
	if errno != api.OK {
		return record{}, false
	}
	r := record{kind: kind, path: path}
	of := func(ofPath, ofName string, errno api.Errno) bool {
		return errno == api.OK && ofPath == path && ofName == name
	}
	switch kind {
	case api.KindNode:
		return r, path != root && entry.Value == ""
	case api.KindQuota:
		r.quota, errno = object.DecodeQuota(entry.Value)
		return r, of(r.quota.Path, r.quota.Name, errno)
	case api.KindLimit:
		l, errno := object.DecodeLimit(entry.Value)
		return r, of(l.Path, l.Name, errno)
	case api.KindObject:
		r.object, errno = object.DecodeObject(entry.Value)
		return r, of(r.object.Path, r.object.Name, errno)
	}
	b, errno := object.DecodeBinding(entry.Value)
	return r, of(b.Path, b.Name, errno)
}

// judgeHomes asks whether what each record lies in is there: a namespace lies in the one above it.
func judgeHomes(records []record, f *findings) {
	nodes := map[string]struct{}{root: {}}
	for _, r := range records {
		if r.kind == api.KindNode {
			nodes[r.path] = struct{}{}
		}
	}
	homeless := f.rule(ruleHomeless)
	for _, r := range records {
		home := r.path
		if r.kind == api.KindNode {
			home, _ = label.Parent(r.path)
		}
		_, there := nodes[home]
		homeless(r.place, !there)
	}
}

// judgeNumbers asks whether a namespace holds too many of a kind.
func judgeNumbers(records []record, f *findings) {
	type shelf struct {
		kind int
		path string
	}
	crowded := f.rule(ruleCrowded)
	ahead := map[shelf]int{}
	for _, r := range records {
		if r.kind == api.KindNode || r.kind == api.KindObject {
			continue
		}
		on := shelf{r.kind, r.path}
		crowded(r.place, ahead[on] >= api.MaxHeld)
		ahead[on]++
	}
}

// judgeUse asks whether all objects can be charged, and whether those that can exceed a quota.
func judgeUse(records []record, f *findings) {
	overflown, exceeded := f.rule(ruleOverflown), f.rule(ruleExceeded)
	used := ledger.New()
	for _, r := range records {
		if r.kind == api.KindObject {
			overflown(r.place, used.Charge(r.object) != api.OK)
		}
	}
	for _, r := range records {
		for _, amount := range r.quota.Hard {
			exceeded(r.place, used.Used(r.quota.Path, r.quota.Scope, amount.Name) > amount.Value)
		}
	}
}
