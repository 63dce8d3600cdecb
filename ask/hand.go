package ask

import (
	"bursar/api"
	"bursar/pack"
)

// hand is what a walk over fields is done with: it either writes each field that it is shown, and leaves it as it is, or fills it with what it reads. So no field can be written in one place and read in another.
type hand interface {
	text(s *string)
	truth(v *bool)
	number(v *int64)
	integer(v *int)
	// count is shown how many elements a list has, and tells how many are to be walked.
	count(n int) int
	failed() bool
}

type writing struct{ to *pack.Writer }

func (w writing) text(s *string)  { w.to.Text(*s) }
func (w writing) truth(v *bool)   { w.to.Bool(*v) }
func (w writing) number(v *int64) { w.to.Int(*v) }
func (w writing) integer(v *int)  { w.to.Int(int64(*v)) }
func (w writing) failed() bool    { return w.to.Err() != api.OK }

func (w writing) count(n int) int {
	w.to.Count(n)
	return n
}

type reading struct{ from *pack.Reader }

func (r reading) text(s *string)  { *s = r.from.Text(api.MaxWriter) }
func (r reading) truth(v *bool)   { *v = r.from.Bool() }
func (r reading) number(v *int64) { *v = r.from.Int() }
func (r reading) integer(v *int)  { *v = int(r.from.Int()) }
func (r reading) count(int) int   { return r.from.Count(api.MaxList) }
func (r reading) failed() bool    { return r.from.Err() != api.OK }

// walkList stops at the first failure, and a list that is read grows as its elements come: bytes that only say that there are many cost nothing.
func walkList[T any](h hand, l *[]T, walk func(h hand, element *T)) {
	for i := range h.count(len(*l)) {
		if h.failed() {
			return
		}
		if i == len(*l) {
			*l = append(*l, *new(T))
		}
		walk(h, &(*l)[i])
	}
}
