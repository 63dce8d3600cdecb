package label

import (
	"slices"
	"strings"

	"bursar/api"
)

// The marks of a selector's text. None of them stands in a name, so the first that is found is the only one that may be there.
const (
	between   = ","
	none      = "!"
	equal     = "="
	unequal   = "!="
	within    = " in ("
	without   = " notin ("
	separator = " "
	closing   = ")"
)

// Parse reads a selector.
func Parse(text string) ([]api.Term, api.Errno) {
	if text == "" {
		return nil, api.OK
	}
	// One piece more than may be is enough to refuse, however long the text.
	pieces := strings.SplitN(text, between, api.MaxTerms+1)
	terms := make([]api.Term, len(pieces))
	for i, piece := range pieces {
		term, ok := read(piece)
		if !ok {
			return nil, api.ErrTerm
		}
		terms[i] = term
	}
	if !validTerms(terms) {
		return nil, api.ErrTerm
	}
	return terms, api.OK
}

// read takes a term's text apart and looks only at what the term itself wouldn't show: whether the term is valid, its caller asks.
func read(text string) (api.Term, bool) {
	if key, found := strings.CutPrefix(text, none); found {
		return api.Term{Key: key, How: api.HasNot}, true
	}
	if key, list, found := strings.Cut(text, within); found {
		return readList(key, api.Is, list)
	}
	if key, list, found := strings.Cut(text, without); found {
		return readList(key, api.IsNot, list)
	}
	// != goes first, as = is a part of it.
	if key, one, found := strings.Cut(text, unequal); found {
		return api.Term{Key: key, How: api.IsNot, Values: []string{one}}, true
	}
	if key, one, found := strings.Cut(text, equal); found {
		return api.Term{Key: key, How: api.Is, Values: []string{one}}, true
	}
	return api.Term{Key: text, How: api.Has}, true
}

// readList refuses a list of one value: such a term has another text.
func readList(key string, how int, list string) (api.Term, bool) {
	inside, closed := strings.CutSuffix(list, closing)
	values := strings.SplitN(inside, separator, api.MaxTerms+1)
	if !closed || len(values) < 2 {
		return api.Term{}, false
	}
	return api.Term{Key: key, How: how, Values: values}, true
}

// Print tells a selector's text.
func Print(terms []api.Term) (string, api.Errno) {
	if !validTerms(terms) {
		return "", api.ErrTerm
	}
	pieces := make([]string, len(terms))
	for i, term := range terms {
		pieces[i] = write(term)
	}
	return strings.Join(pieces, between), api.OK
}

func write(term api.Term) string {
	switch term.How {
	case api.Has:
		return term.Key
	case api.HasNot:
		return none + term.Key
	case api.Is:
		return writeValues(term, equal, within)
	default:
		return writeValues(term, unequal, without)
	}
}

func writeValues(term api.Term, one, more string) string {
	if len(term.Values) == 1 {
		return term.Key + one + term.Values[0]
	}
	return term.Key + more + strings.Join(term.Values, separator) + closing
}

// Match tells whether labels satisfy all terms.
func Match(terms []api.Term, l []api.Label) (bool, api.Errno) {
	if !validTerms(terms) {
		return false, api.ErrTerm
	}
	if errno := Valid(l); errno != api.OK {
		return false, errno
	}
	places := make(map[string]int, len(l))
	for i, one := range l {
		places[one.Key] = i
	}
	for _, term := range terms {
		if !holds(term, l, places) {
			return false, api.OK
		}
	}
	return true, api.OK
}

func holds(term api.Term, l []api.Label, places map[string]int) bool {
	place, there := places[term.Key]
	switch term.How {
	case api.Has:
		return there
	case api.HasNot:
		return !there
	}
	named := there && slices.Contains(term.Values, l[place].Value)
	return named == (term.How == api.Is)
}

func validTerms(terms []api.Term) bool {
	return len(terms) <= api.MaxTerms && !slices.ContainsFunc(terms, invalid)
}

func invalid(term api.Term) bool {
	if !Name(term.Key) {
		return true
	}
	switch term.How {
	case api.Is, api.IsNot:
		return !validValues(term.Values)
	case api.Has, api.HasNot:
		return len(term.Values) > 0
	}
	return true
}

// validValues lets "" stand alone only: in a list its text couldn't be told from a blank too many.
func validValues(values []string) bool {
	if len(values) == 1 {
		return value(values[0])
	}
	if len(values) == 0 || len(values) > api.MaxTerms {
		return false
	}
	seen := make(map[string]int, len(values))
	for i, one := range values {
		if _, twice := seen[one]; twice || !Name(one) {
			return false
		}
		seen[one] = i
	}
	return true
}
