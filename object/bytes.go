package object

import (
	"bursar/api"
	"bursar/pack"
)

// form: the second byte of every record.
const form = 1

// bytesOf tells the bytes of a record that stands, by what lays its fields behind its letter.
func bytesOf(stands bool, letter byte, lay func(w *pack.Writer)) (string, api.Errno) {
	if !stands {
		return "", api.ErrObject
	}
	w := pack.NewWriter(api.MaxValue)
	w.Byte(letter)
	w.Byte(form)
	lay(w)
	b, errno := w.Out()
	return string(b), errno
}

// decoded takes just what encode answers: what the text seems to say is encoded anew and held against it.
func decoded[T any](s string, take func(r *pack.Reader) T, encode func(T) (string, api.Errno)) (T, api.Errno) {
	r := pack.NewReader([]byte(s))
	r.Byte()
	r.Byte()
	record := take(r)
	again, errno := encode(record)
	if errno != api.OK || again != s {
		var none T
		return none, api.ErrBad
	}
	return record, api.OK
}

// Encode.., Decode..: as bytes.
func EncodeObject(o api.Object) (string, api.Errno) {
	return bytesOf(objectStands(o), 'O', func(w *pack.Writer) { layObject(w, o) })
}

func DecodeObject(s string) (api.Object, api.Errno) { return decoded(s, takeObject, EncodeObject) }

func EncodeQuota(q api.Quota) (string, api.Errno) {
	return bytesOf(quotaStands(q), 'Q', func(w *pack.Writer) { layQuota(w, q) })
}

func DecodeQuota(s string) (api.Quota, api.Errno) { return decoded(s, takeQuota, EncodeQuota) }

func EncodeLimit(l api.LimitRange) (string, api.Errno) {
	return bytesOf(limitStands(l), 'L', func(w *pack.Writer) { layLimit(w, l) })
}

func DecodeLimit(s string) (api.LimitRange, api.Errno) { return decoded(s, takeLimit, EncodeLimit) }

func EncodeBinding(b api.Binding) (string, api.Errno) {
	return bytesOf(bindingStands(b), 'B', func(w *pack.Writer) { layBinding(w, b) })
}

func DecodeBinding(s string) (api.Binding, api.Errno) {
	return decoded(s, takeBinding, EncodeBinding)
}

func layObject(w *pack.Writer, o api.Object) {
	w.Text(o.Path)
	w.Text(o.Name)
	w.Count(len(o.Labels))
	for _, l := range o.Labels {
		w.Text(l.Key)
		w.Text(l.Value)
	}
	w.Byte(byte(o.Priority))
	w.Uint(uint64(o.Deadline))
	w.Count(len(o.Parts))
	for _, p := range o.Parts {
		w.Text(p.Name)
		layAmounts(w, p.Requests)
		layAmounts(w, p.Limits)
	}
	w.Uint(uint64(o.Version))
}

func takeObject(r *pack.Reader) api.Object {
	o := api.Object{Path: takeText(r), Name: takeText(r)}
	for range r.Count(api.MaxLabels) {
		o.Labels = append(o.Labels, api.Label{Key: takeText(r), Value: takeText(r)})
	}
	o.Priority = int(r.Byte())
	o.Deadline = int64(r.Uint())
	for range r.Count(api.MaxParts) {
		o.Parts = append(o.Parts, api.Part{Name: takeText(r), Requests: takeAmounts(r), Limits: takeAmounts(r)})
	}
	o.Version = int64(r.Uint())
	return o
}

func layQuota(w *pack.Writer, q api.Quota) {
	w.Text(q.Path)
	w.Text(q.Name)
	w.Byte(byte(q.Scope.Kind))
	w.Byte(byte(q.Scope.Arg))
	layAmounts(w, q.Hard)
}

func takeQuota(r *pack.Reader) api.Quota {
	q := api.Quota{Path: takeText(r), Name: takeText(r)}
	q.Scope = api.Scope{Kind: int(r.Byte()), Arg: int(r.Byte())}
	q.Hard = takeAmounts(r)
	return q
}

func layLimit(w *pack.Writer, l api.LimitRange) {
	w.Text(l.Path)
	w.Text(l.Name)
	w.Count(len(l.Rules))
	for _, u := range l.Rules {
		w.Text(u.Resource)
		w.Int(u.Min)
		w.Int(u.Max)
		w.Int(u.Default)
		w.Int(u.Request)
		w.Int(u.Ratio)
	}
}

func takeLimit(r *pack.Reader) api.LimitRange {
	l := api.LimitRange{Path: takeText(r), Name: takeText(r)}
	for range r.Count(api.MaxRules) {
		l.Rules = append(l.Rules, api.Rule{Resource: takeText(r), Min: r.Int(), Max: r.Int(), Default: r.Int(), Request: r.Int(), Ratio: r.Int()})
	}
	return l
}

func layBinding(w *pack.Writer, b api.Binding) {
	w.Text(b.Path)
	w.Text(b.Name)
	w.Text(b.Subject)
	w.Byte(byte(b.Verb))
}

func takeBinding(r *pack.Reader) api.Binding {
	return api.Binding{Path: takeText(r), Name: takeText(r), Subject: takeText(r), Verb: int(r.Byte())}
}

func layAmounts(w *pack.Writer, l []api.Amount) {
	w.Count(len(l))
	for _, a := range l {
		w.Text(a.Name)
		w.Uint(uint64(a.Value))
	}
}

func takeAmounts(r *pack.Reader) []api.Amount {
	var l []api.Amount
	for range r.Count(api.MaxAmounts) {
		l = append(l, api.Amount{Name: takeText(r), Value: int64(r.Uint())})
	}
	return l
}

// takeText asks only for what a whole record may have: encode tells what a single text may.
func takeText(r *pack.Reader) string { return r.Text(api.MaxValue) }
