package backup

import (
	"bursar/api"
	"bursar/pack"
	"bursar/sum"
)

// What streams and differences begin with; and the bytes of the sum that they end with.
const (
	streamKind     = 187
	differenceKind = 188
	layout         = 1
	markBytes      = 4
)

// reader reads what was sealed. It fails also where a value has its form, but may not stand where it does.
type reader struct {
	*pack.Reader
	last  string // the key that was read last
	wrong bool
}

// opened: a reader of what is sealed and of this kind.
func opened(b []byte, kind byte) (*reader, api.Errno) {
	inside, errno := sum.Open(b)
	if errno != api.OK {
		return nil, api.ErrBad
	}
	r := &reader{Reader: pack.NewReader(inside)}
	r.ask(r.Byte() == kind)
	r.ask(r.Byte() == layout)
	return r, api.OK
}

// ask: what must hold, or the reader has failed.
func (r *reader) ask(holds bool) { r.wrong = r.wrong || !holds }

// version reads a version.
func (r *reader) version() int64 {
	v := r.Uint()
	r.ask(v <= api.MaxStamp)
	return int64(v)
}

// mark goes past a mark.
func (r *reader) mark() {
	for range markBytes {
		r.Byte()
	}
}

// key reads a key, which must stand behind the last one; the first one behind "", so it has bytes.
func (r *reader) key() string {
	key := r.Text(api.MaxKey)
	r.ask(key > r.last)
	r.last = key
	return key
}

// value reads a value.
func (r *reader) value() string { return r.Text(api.MaxValue) }

// failed: behind a failure nothing more needs to be read, however much there is said to be.
func (r *reader) failed() bool { return r.wrong || r.Err() != api.OK }

// ended tells whether all was read, and right.
func (r *reader) ended() bool { return r.End() == api.OK && !r.wrong }
