package backup

import (
	"bursar/api"
	"bursar/pack"
	"bursar/sum"
)

// state: what a stream holds. The keys of its entries rise.
type state struct {
	version int64
	entries []api.Entry
}

// stream tells a state's stream.
func (s state) stream() []byte {
	b := form(func(w *pack.Writer) {
		w.Byte(streamKind)
		w.Byte(layout)
		w.Uint(uint64(s.version))
		w.Uint(uint64(len(s.entries)))
	})
	for _, entry := range s.entries {
		b = append(b, form(func(w *pack.Writer) {
			w.Text(entry.Key)
			w.Text(entry.Value)
		})...)
	}
	return sum.Seal(b)
}

// form tells what is laid: one piece, for the whole may be longer than what a writer takes.
func form(lay func(w *pack.Writer)) []byte {
	w := pack.NewWriter(api.MaxWriter)
	lay(w)
	b, _ := w.Out()
	return b
}

// stateOf tells what a stream holds.
func stateOf(stream []byte) (state, api.Errno) {
	r, errno := opened(stream, streamKind)
	if errno != api.OK {
		return state{}, errno
	}
	s := state{version: r.version()}
	for n := r.Uint(); n > 0 && !r.failed(); n-- {
		s.entries = append(s.entries, api.Entry{Key: r.key(), Value: r.value()})
	}
	if !r.ended() {
		return state{}, api.ErrBad
	}
	return s, api.OK
}
