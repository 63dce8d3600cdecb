package bursar

import (
	"slices"
	"strconv"
	"strings"

	"bursar/api"
	"bursar/quant"
	"bursar/scope"
)

// verbs: their words, by number.
var verbs = [...]string{api.Read: "read", api.Write: "write", api.Govern: "govern", api.Bind: "bind"}

// line tells words as one.
func line(words ...string) string { return strings.Join(words, " ") + "\n" }

// each tells a line of each.
func each[T any](l []T, tell func(T) string) string {
	var told strings.Builder
	for _, x := range l {
		told.WriteString(tell(x))
	}
	return told.String()
}

// own tells a text as a word of its own: the empty one must be seen.
func own(text string) string {
	if text == "" {
		return "-"
	}
	return text
}

func number(n int64) string { return strconv.FormatInt(n, 10) }

func truth(is bool) string {
	if is {
		return "1"
	}
	return "0"
}

// refused tells the whole text of a command that is.
func refused(e api.Errno) string { return line("no", number(int64(e))) }

// done tells the first line of a command that isn't.
func done(numbers ...int64) string {
	words := []string{"ok"}
	for _, n := range numbers {
		words = append(words, number(n))
	}
	return line(words...)
}

// outcome tells the text of a command that has nothing more to tell.
func outcome(e api.Errno) string {
	if e != api.OK {
		return refused(e)
	}
	return done()
}

// Tell tells a reply's text: what its operation is asked for, and no more.
func Tell(op int, r api.Reply) string {
	if r.Code != api.OK {
		d := r.Detail
		return line("no", number(int64(r.Code)), number(r.Version), own(d.Path), own(d.Name), own(d.Part), own(d.Resource))
	}
	head := done(r.Version)
	switch op {
	case api.OpCreate, api.OpUpdate, api.OpDelete, api.OpEvict:
		return head + each(r.Objects, objectLine)
	case api.OpGet:
		return head + each(r.Objects, objectLine) + each(r.Names, nameLine) + moreLine(r.More)
	case api.OpList:
		return head + each(r.Objects, objectLine) + moreLine(r.More)
	case api.OpStatus:
		return head + each(r.Lines, statusLine)
	case api.OpWatch:
		return head + each(r.Events, eventLine)
	case api.OpStat:
		return head + statLine(r.Stat)
	}
	return head
}

// Dump tells a dump's text.
func Dump(d api.Dump) string {
	return done(d.Version) + each(d.Nodes, nodeLine) + each(d.Quotas, quotaLine) + each(d.Limits, limitLine) +
		each(d.Objects, objectLine) + each(d.Bindings, bindingLine) + each(d.Uses, useLine)
}

func nameLine(path string) string { return line("name", own(path)) }
func nodeLine(path string) string { return line("node", own(path)) }

func moreLine(more bool) string {
	if !more {
		return ""
	}
	return line("more")
}

func problemLine(p api.Problem) string {
	return line("problem", number(int64(p.Rule)), number(int64(p.Block)))
}

func statusLine(l api.Line) string {
	return line("line", own(l.Resource), own(quant.Print(l.Hard)), own(quant.Print(l.Used)))
}

func eventLine(e api.Event) string {
	return line("event", number(e.Version), number(int64(e.Kind)), truth(e.Gone), own(e.Path), own(e.Name))
}

func statLine(s api.Stat) string {
	return line("stat", number(s.Generation), number(s.Epoch), number(s.Version), number(int64(s.LogFree)), number(int64(s.Entries)), number(int64(s.Unsynced)))
}

func objectLine(o api.Object) string {
	words := []string{"object", own(o.Path), own(o.Name), number(int64(o.Priority)), number(o.Deadline), number(o.Version)}
	for _, l := range o.Labels {
		words = append(words, "label", l.Key+"="+l.Value)
	}
	for _, p := range o.Parts {
		words = append(words, "part", own(p.Name))
		words = append(words, headed("req", p.Requests)...)
		words = append(words, headed("lim", p.Limits)...)
	}
	return line(words...)
}

// headed tells amounts behind a word that says of what they are; nothing, if there are none.
func headed(head string, l []api.Amount) []string {
	if len(l) == 0 {
		return nil
	}
	return append([]string{head}, amountWords(l)...)
}

func amountWords(l []api.Amount) []string {
	var words []string
	for _, a := range l {
		words = append(words, a.Name+"="+quant.Print(a.Value))
	}
	return words
}

func quotaLine(q api.Quota) string {
	words := []string{"quota", own(q.Path), own(q.Name), scopeWord(q.Scope)}
	return line(append(words, amountWords(q.Hard)...)...)
}

func limitLine(l api.LimitRange) string {
	words := []string{"limit", own(l.Path), own(l.Name)}
	for _, r := range l.Rules {
		words = append(words, ruleWords(r)...)
	}
	return line(words...)
}

func ruleWords(r api.Rule) []string {
	said := []api.Amount{{Name: "min", Value: r.Min}, {Name: "max", Value: r.Max}, {Name: "default", Value: r.Default}, {Name: "request", Value: r.Request}, {Name: "ratio", Value: r.Ratio}}
	said = slices.DeleteFunc(said, func(a api.Amount) bool { return a.Value == unset })
	return append([]string{"rule", own(r.Resource)}, amountWords(said)...)
}

func bindingLine(b api.Binding) string {
	verb := ""
	if b.Verb >= 0 && b.Verb < len(verbs) {
		verb = verbs[b.Verb]
	}
	return line("bind", own(b.Path), own(b.Name), own(b.Subject), own(verb))
}

func useLine(u api.Use) string {
	return line("use", own(u.Path), scopeWord(u.Scope), own(u.Resource), own(quant.Print(u.Value)))
}

// scopeWord tells a scope's text; what is none is told as an empty text is.
func scopeWord(s api.Scope) string {
	text, _ := scope.Print(s)
	return own(text)
}
