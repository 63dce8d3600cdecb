package ask_test

import (
	"bytes"
	"reflect"
	"slices"
	"testing"

	"bursar/api"
	"bursar/ask"
)

// roomy gives every list, however deep, spare room that is filled.
func roomy(v reflect.Value) {
	switch v.Kind() {
	case reflect.Struct:
		for i := range v.NumField() {
			roomy(v.Field(i))
		}
	case reflect.Slice:
		n := v.Len()
		room := reflect.MakeSlice(v.Type(), n+3, n+3)
		reflect.Copy(room, v)
		next := int64(1000)
		for i := n; i < n+3; i++ {
			full(room.Index(i), &next)
		}
		v.Set(room.Slice(0, n))
		for i := range n {
			roomy(v.Index(i))
		}
	}
}

// withRoom copies all of a value, and shows the spare room of its lists too.
func withRoom(to, from reflect.Value) {
	switch from.Kind() {
	case reflect.Struct:
		for i := range from.NumField() {
			withRoom(to.Field(i), from.Field(i))
		}
	case reflect.Slice:
		all := from.Slice(0, from.Cap())
		to.Set(reflect.MakeSlice(from.Type(), all.Len(), all.Len()))
		for i := range all.Len() {
			withRoom(to.Index(i), all.Index(i))
		}
	default:
		to.Set(from)
	}
}

func shown[T any](a T) T {
	var b T
	withRoom(reflect.ValueOf(&b).Elem(), reflect.ValueOf(a))
	return b
}

// What is handed in stays as it is, its spare room too, and what is answered is new memory.
func TestEncodeSharesNothing(t *testing.T) {
	for op := range lastOp + 1 {
		r := fullRequest(op)
		roomy(reflect.ValueOf(&r).Elem())
		was := shown(r)
		one, errno := ask.EncodeRequest(r)
		two, _ := ask.EncodeRequest(r)
		ask.Verb(r)
		if !reflect.DeepEqual(shown(r), was) {
			t.Errorf("EncodeRequest of %d has changed what it was handed", op)
		}
		if want := slices.Clone(two); errno == api.OK && !unshared(one, two, want) {
			t.Errorf("two of what EncodeRequest answers share memory")
		}
		for _, code := range []api.Errno{api.OK, api.ErrQuota} {
			r := fullReply(code)
			roomy(reflect.ValueOf(&r).Elem())
			was := shown(r)
			one := encodedReply(t, op, r)
			two := encodedReply(t, op, r)
			if !reflect.DeepEqual(shown(r), was) {
				t.Errorf("EncodeReply to %d has changed what it was handed", op)
			}
			if !unshared(one, two, slices.Clone(two)) {
				t.Errorf("two of what EncodeReply answers share memory")
			}
		}
	}
}

// unshared writes all over one, and asks whether two is what it was.
func unshared(one, two, want []byte) bool {
	clear(one[:cap(one)])
	return bytes.Equal(two, want)
}

// What is handed to Decode stays as it is, its spare room too, and may be written over later.
func TestDecodeSharesNothing(t *testing.T) {
	for _, sample := range samples(t) {
		room := append(bytes.Clone(sample), 7, 7, 7)
		b := room[:len(sample)]
		r, _ := ask.DecodeRequest(b)
		_, reply, _ := ask.DecodeReply(b)
		if !bytes.Equal(room, append(bytes.Clone(sample), 7, 7, 7)) {
			t.Errorf("Decode has changed what it was handed: %x", room)
		}
		wasRequest, wasReply := copied(r), copied(reply)
		for i := range room {
			room[i] = 'z'
		}
		if !same(r, wasRequest) || !same(reply, wasReply) {
			t.Errorf("what was decoded has changed with the bytes %x", sample)
		}
	}
}

// No two lists that Decode answers share memory: each may be appended to, and nothing else changes.
func TestListsAreTheirOwn(t *testing.T) {
	for _, sample := range samples(t) {
		alone(t, func() api.Request {
			r, _ := ask.DecodeRequest(sample)
			return r
		})
		alone(t, func() api.Reply {
			_, r, _ := ask.DecodeReply(sample)
			return r
		})
	}
}

// alone appends to one list after the other, each in an answer of its own, and holds the rest against another answer.
func alone[T any](t *testing.T, decode func() T) {
	t.Helper()
	for n := 0; ; n++ {
		a, other := decode(), decode()
		left := n
		if !overrun(reflect.ValueOf(&a).Elem(), &left) {
			return
		}
		if !same(a, other) || !same(other, decode()) {
			t.Fatalf("a list that was appended to lies in another's memory: %s", short(a))
		}
	}
}

// overrun fills the spare room of the list that comes when so many have gone by.
func overrun(v reflect.Value, left *int) bool {
	switch v.Kind() {
	case reflect.Struct:
		for i := range v.NumField() {
			if overrun(v.Field(i), left) {
				return true
			}
		}
	case reflect.Slice:
		if *left--; *left < 0 {
			room, next := v.Slice(0, v.Cap()), int64(5000)
			for i := v.Len(); i < v.Cap(); i++ {
				full(room.Index(i), &next)
			}
			return true
		}
		for i := range v.Len() {
			if overrun(v.Index(i), left) {
				return true
			}
		}
	}
	return false
}
