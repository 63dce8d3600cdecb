package fsck

import (
	"slices"
	"strings"

	"bursar/api"
	"bursar/dev"
	"bursar/store"
	"bursar/wal"
)

// judgeLog asks for the rules of the log of a valid superblock. How many records stand ahead of the first that breaks one, and what they change.
func judgeLog(d *dev.Dev, s api.Super, f *findings) (int, []api.Change) {
	// In the epoch in which a store would open it. Of a device that is up no valid superblock's log is refused.
	_, records, _ := wal.Open(d, superblocks, s.Log, s.From, s.Epoch+1)
	noChanges, jumping := f.rule(ruleNoChanges), f.rule(ruleJumping)
	var changes []api.Change
	for i, record := range records {
		version, l, errno := store.Unrecord(record)
		if noChanges(i+1, errno != api.OK) || jumping(i+1, version != s.Version+int64(i+1)) {
			return i, changes
		}
		changes = append(changes, l...)
	}
	return len(records), changes
}

// behind tells what entries with unlike keys are behind changes, by their keys.
func behind(entries []api.Entry, changes []api.Change) []api.Entry {
	last := map[string]api.Change{}
	for _, c := range changes {
		last[c.Key] = c
	}
	var all []api.Entry
	for _, entry := range entries {
		if _, changed := last[entry.Key]; !changed {
			all = append(all, entry)
		}
	}
	for key, c := range last {
		if !c.Gone {
			all = append(all, api.Entry{Key: key, Value: c.Value})
		}
	}
	slices.SortFunc(all, func(a, b api.Entry) int { return strings.Compare(a.Key, b.Key) })
	return all
}
