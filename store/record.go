package store

import (
	"bursar/api"
	"bursar/pack"
)

// recordByte: the first byte of a record.
const recordByte = 195

// Record tells the bytes by which the log holds an Apply; Unrecord reads them.
func Record(version int64, l []api.Change) (string, api.Errno) {
	if version < 1 || version > api.MaxStamp {
		return "", api.ErrArg
	}
	return recorded(version, l)
}

// recorded is Record of a version that may be any number: Apply looks at the changes first.
func recorded(version int64, l []api.Change) (string, api.Errno) {
	if !stands(l) {
		return "", api.ErrArg
	}
	if !short(l) {
		return "", api.ErrLong
	}
	w := pack.NewWriter(api.MaxRecord)
	w.Byte(recordByte)
	w.Uint(uint64(version))
	w.Count(len(l))
	for _, c := range l {
		w.Bool(c.Gone)
		w.Text(c.Key)
		if !c.Gone {
			w.Text(c.Value)
		}
	}
	b, errno := w.Out()
	return string(b), errno
}

// stands tells whether changes are such as can be done, be they as long as they may.
func stands(l []api.Change) bool {
	seen := map[string]struct{}{}
	for _, c := range l {
		_, twice := seen[c.Key]
		if c.Key == "" || twice || c.Gone && c.Value != "" {
			return false
		}
		seen[c.Key] = struct{}{}
	}
	return len(l) > 0
}

// short tells whether neither a change nor their number is above its limit; what their record is the writer tells.
func short(l []api.Change) bool {
	for _, c := range l {
		if len(c.Key) > api.MaxKey || len(c.Value) > api.MaxValue {
			return false
		}
	}
	return len(l) <= api.MaxList
}

// Unrecord takes just what Record answers: so what the bytes seem to say is recorded anew and held against them.
func Unrecord(record string) (int64, []api.Change, api.Errno) {
	version, l := seeming(record)
	again, errno := Record(version, l)
	if errno != api.OK || again != record {
		return 0, nil, api.ErrBad
	}
	return version, l, api.OK
}

// seeming tells what Record was told, if these are its bytes; of others anything.
func seeming(record string) (int64, []api.Change) {
	r := pack.NewReader([]byte(record))
	r.Byte()
	version := int64(r.Uint())
	var l []api.Change
	for range r.Count(api.MaxList) {
		c := api.Change{Gone: r.Bool(), Key: r.Text(api.MaxKey)}
		if !c.Gone {
			c.Value = r.Text(api.MaxValue)
		}
		l = append(l, c)
	}
	return version, l
}
