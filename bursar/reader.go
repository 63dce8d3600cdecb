package bursar

import (
	"strconv"
	"strings"

	"bursar/api"
)

const (
	blanks        = " \t"
	hexes         = "0123456789abcdef"
	mostDigits    = 10 // of a number
	versionDigits = 19
	mostVersion   = 1 << 62
	mostHexes     = 4096 // of bytes
	mostFates     = 512
	mostTorn      = 512
	noForm        = api.ErrScript // what the reader panics with
)

// reader goes through a text word by word; at the first word that isn't of the form it panics.
type reader struct {
	rest string // what is to be read; no blank stands at its ends
}

// read tells what a text is, as the form says; false: it is nothing of this form. The reader's panic ends here.
func read[T any](text string, form func(*reader) T) (got T, is bool) {
	defer func() {
		if recover() != nil {
			var none T
			got, is = none, false
		}
	}()
	if strings.Contains(text, "\n") {
		return got, false
	}
	text, _, _ = strings.Cut(text, "#")
	r := &reader{rest: strings.Trim(text, blanks)}
	got = form(r)
	r.end()
	return got, true
}

// refuse ends the reading, if there is a fault.
func refuse(fault bool) {
	if fault {
		panic(noForm)
	}
}

// end: no word may be left.
func (r *reader) end() { refuse(r.rest != "") }

// peek tells the next word and leaves it there; "" if there is none.
func (r *reader) peek() string {
	if i := strings.IndexAny(r.rest, blanks); i >= 0 {
		return r.rest[:i]
	}
	return r.rest
}

// word takes the next word, of which there must be one.
func (r *reader) word() string {
	refuse(r.rest == "")
	w := r.peek()
	r.rest = strings.TrimLeft(r.rest[len(w):], blanks)
	return w
}

// said takes the next word, if it is this one, and tells whether it is.
func (r *reader) said(word string) bool {
	is := r.peek() == word
	if is {
		r.word()
	}
	return is
}

// option takes the next word, if it begins so, and tells what stands behind that.
func (r *reader) option(begin string) (string, bool) {
	value, is := strings.CutPrefix(r.peek(), begin)
	if !is {
		return "", false
	}
	r.word()
	return value, true
}

// number takes a word that is a number.
func (r *reader) number() int { return int(numberOf(r.word())) }

// digits: the text must be so many decimal digits, from one on.
func digits(text string, most int) {
	refuse(text == "" || len(text) > most)
	for i := range len(text) {
		refuse(text[i] < '0' || text[i] > '9')
	}
}

func numberOf(text string) int64 {
	digits(strings.TrimPrefix(text, "-"), mostDigits)
	n, e := strconv.ParseInt(text, 10, 64)
	refuse(e != nil)
	return n
}

func versionOf(text string) int64 {
	digits(text, versionDigits)
	n, e := strconv.ParseUint(text, 10, 64)
	refuse(e != nil || n > mostVersion)
	return int64(n)
}

// bytes takes a word of bytes.
func (r *reader) bytes() []byte {
	text, is := strings.CutPrefix(r.word(), ":")
	refuse(!is || len(text)%2 != 0 || len(text) > mostHexes)
	b := make([]byte, len(text)/2)
	for i := range b {
		b[i] = half(text[2*i])<<4 | half(text[2*i+1])
	}
	return b
}

// half tells the four bits that a digit of bytes stands for.
func half(digit byte) byte {
	i := strings.IndexByte(hexes, digit)
	refuse(i < 0)
	return byte(i)
}

// fates takes a word of fates.
func (r *reader) fates() []api.Fate {
	text := r.word()
	if text == "-" {
		return nil
	}
	pieces := strings.Split(text, ",")
	refuse(len(pieces) > mostFates)
	l := make([]api.Fate, len(pieces))
	for i, p := range pieces {
		l[i] = fateOf(p)
	}
	return l
}

func fateOf(text string) api.Fate {
	switch text {
	case "k":
		return api.Fate{Kind: api.Kept}
	case "d":
		return api.Fate{Kind: api.Dropped}
	}
	at, is := strings.CutPrefix(text, "t")
	refuse(!is)
	digits(at, mostDigits)
	n := numberOf(at)
	refuse(n > mostTorn)
	return api.Fate{Kind: api.Torn, At: int(n)}
}
