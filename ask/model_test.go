package ask_test

import (
	"math/rand/v2"
	"slices"
	"strings"
	"testing"

	"bursar/api"
)

// P23.1, P23.2, P23.4: any requests, held against the chapter's words.
func TestAnyRequests(t *testing.T) {
	r := source(10)
	count := map[api.Errno]int{}
	for range 5000 {
		q := anyRequest(r)
		switch r.IntN(12) {
		case 0:
			q.Op = pick(r, 0, -1, 20, 256+q.Op, -q.Op)
		case 1:
			q.Subject = strings.Repeat("s", 15900+r.IntN(700))
		case 2:
			q.Terms = slices.Repeat([]api.Term{{}}, pick(r, 4096, 4097))
			q.Object.Labels = make([]api.Label, pick(r, 4096, 4097))
		}
		_, errno := checkRequest(t, q)
		count[errno]++
	}
	for _, errno := range []api.Errno{api.OK, api.ErrOp, api.ErrLong} {
		if count[errno] < 150 {
			t.Errorf("the answer %d came %d times", int(errno), count[errno])
		}
	}
}

// P23.1, P23.2: any replies.
func TestAnyReplies(t *testing.T) {
	r := source(11)
	count := map[api.Errno]int{}
	for range 6000 {
		a, op := anyReply(r), r.IntN(20)
		switch r.IntN(40) {
		case 0, 1, 2:
			op = pick(r, -1, 20, 256+op, -op-1)
		case 3:
			a.Objects = slices.Repeat([]api.Object{{}}, pick(r, 4096, 4097))
			a.Names, a.Lines, a.Events = make([]string, 4097), make([]api.Line, 4097), make([]api.Event, 4097)
		}
		_, errno := checkReply(t, op, a)
		count[errno]++
	}
	for _, errno := range []api.Errno{api.OK, api.ErrOp, api.ErrLong} {
		if count[errno] < 20 {
			t.Errorf("the answer %d came %d times", int(errno), count[errno])
		}
	}
}

// bent: some bytes of a request or reply changed, gone, doubled or come.
func bent(r *rand.Rand, b []byte) []byte {
	b = slices.Clone(b)
	for range r.IntN(4) {
		at := r.IntN(len(b))
		if len(b) > 3 && r.IntN(8) > 0 {
			at = 3 + r.IntN(len(b)-3)
		}
		c := pick(r, 0, 1, 2, 3, 127, 128, 129, 255, byte(r.Uint32()))
		switch r.IntN(4) {
		case 0:
			b[at] = c
		case 1:
			b = slices.Insert(b, at, c)
		case 2:
			if len(b) > 1 {
				b = slices.Delete(b, at, at+1)
			}
		default:
			b = slices.Insert(b, at, b[at:min(at+1+r.IntN(5), len(b))]...)
		}
	}
	return b
}

// P23.1, P23.2, P23.3: any bytes, most of them near to a request's or a reply's.
func TestAnyBytes(t *testing.T) {
	r := source(12)
	requests, replies := map[api.Errno]int{}, map[api.Errno]int{}
	for range 20000 {
		var b []byte
		switch r.IntN(9) {
		case 0:
			b = make([]byte, r.IntN(30))
			for i := range b {
				b[i] = pick(r, 0, 1, 2, 17, 65, 82, byte(r.Uint32()))
			}
		case 1, 2, 3, 4:
			b = bent(r, encodedRequest(t, anyRequest(r)))
		default:
			b = bent(r, encodedReply(t, r.IntN(20), anyReply(r)))
		}
		asRequest, asReply := checkBytes(t, b)
		requests[asRequest]++
		replies[asReply]++
	}
	if requests[api.OK] < 2000 || requests[api.ErrBad] < 2000 || requests[api.ErrOp] < 20 || replies[api.OK] < 2000 || replies[api.ErrBad] < 2000 {
		t.Errorf("requests: %v, replies: %v", requests, replies)
	}
}

// P23.1: all bytes behind a head, up to a length, of few letters.
func TestAllShortBytes(t *testing.T) {
	letters := []byte{0, 1, 2, 'a', 128, 255}
	for _, first := range []byte{82, 65} {
		for op := range 21 {
			b := []byte{first, 1, byte(op)}
			for n := range 5 {
				everyOf(letters, n, func(tail []byte) { checkBytes(t, append(slices.Clip(b), tail...)) })
			}
		}
	}
}

func everyOf(letters []byte, n int, do func([]byte)) {
	tail := make([]byte, n)
	var lay func(i int)
	lay = func(i int) {
		if i == n {
			do(tail)
			return
		}
		for _, c := range letters {
			tail[i] = c
			lay(i + 1)
		}
	}
	lay(0)
}
