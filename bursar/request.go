package bursar

import (
	"strings"

	"bursar/api"
	"bursar/label"
	"bursar/quant"
	"bursar/scope"
)

const (
	mostUnsaid = 100 // how many a list or watch tells at most, if the text does not say
	unset      = -1  // an amount that a rule does not say
)

// forms: what reads a request, by its first word.
func forms() map[string]func(*reader) api.Request {
	return map[string]func(*reader) api.Request{
		"node":       (*reader).node,
		"quota":      (*reader).quota,
		"limit":      (*reader).limit,
		"create":     (*reader).create,
		"update":     (*reader).update,
		"evict":      (*reader).evict,
		"delete":     (*reader).remove,
		"get":        (*reader).get,
		"nodes":      (*reader).nodes,
		"list":       (*reader).list,
		"status":     (*reader).status,
		"watch":      (*reader).watch,
		"bind":       (*reader).bind,
		"unbind":     (*reader).unbind,
		"sync":       (*reader).sync,
		"checkpoint": (*reader).checkpoint,
		"stat":       (*reader).stat,
	}
}

// request reads a whole request.
func (r *reader) request() api.Request {
	dry := r.said("dry")
	form, is := forms()[r.word()]
	refuse(!is)
	q := form(r)
	q.Dry = dry
	return q
}

func (r *reader) create() api.Request     { return r.object(api.OpCreate) }
func (r *reader) update() api.Request     { return r.object(api.OpUpdate) }
func (r *reader) evict() api.Request      { return r.object(api.OpEvict) }
func (r *reader) get() api.Request        { return r.named(api.OpGet) }
func (r *reader) status() api.Request     { return r.named(api.OpStatus) }
func (r *reader) unbind() api.Request     { return r.named(api.OpUnbind) }
func (r *reader) nodes() api.Request      { return api.Request{Op: api.OpGet, Path: r.word()} }
func (r *reader) sync() api.Request       { return api.Request{Op: api.OpSync} }
func (r *reader) checkpoint() api.Request { return api.Request{Op: api.OpCheckpoint} }
func (r *reader) stat() api.Request       { return api.Request{Op: api.OpStat} }

// named reads a path and a name.
func (r *reader) named(op int) api.Request {
	path, name := r.word(), r.word()
	return api.Request{Op: op, Path: path, Name: name}
}

// comes takes a word that says whether a thing comes or goes, and tells whether it comes.
func (r *reader) comes(come, goes string) bool {
	if r.said(goes) {
		return false
	}
	refuse(r.word() != come)
	return true
}

func (r *reader) node() api.Request {
	if r.comes("add", "drop") {
		return api.Request{Op: api.OpNodeAdd, Path: r.word()}
	}
	return api.Request{Op: api.OpNodeDrop, Path: r.word()}
}

func (r *reader) quota() api.Request {
	if !r.comes("set", "drop") {
		return r.named(api.OpQuotaDrop)
	}
	q := r.named(api.OpQuotaSet)
	s, e := scope.Parse(r.word())
	refuse(e != api.OK)
	q.Quota = api.Quota{Path: q.Path, Name: q.Name, Scope: s, Hard: r.amounts()}
	return q
}

func (r *reader) limit() api.Request {
	if !r.comes("set", "drop") {
		return r.named(api.OpLimitDrop)
	}
	q := r.named(api.OpLimitSet)
	q.Limit = api.LimitRange{Path: q.Path, Name: q.Name}
	for r.said("rule") {
		q.Limit.Rules = append(q.Limit.Rules, r.rule())
	}
	return q
}

// rule reads what stands behind the word rule; the resource may be called like any other word of the form.
func (r *reader) rule() api.Rule {
	resource := r.word()
	least, most := r.quantity("min="), r.quantity("max=")
	limit, request := r.quantity("default="), r.quantity("request=")
	return api.Rule{Resource: resource, Min: least, Max: most, Default: limit, Request: request, Ratio: r.quantity("ratio=")}
}

func (r *reader) object(op int) api.Request {
	q := r.named(op)
	o := api.Object{Path: q.Path, Name: q.Name}
	if text, is := r.option("prio="); is {
		o.Priority = int(numberOf(text))
	}
	if text, is := r.option("ends="); is {
		o.Deadline = numberOf(text)
	}
	q.Version = r.must()
	for r.said("label") {
		o.Labels = append(o.Labels, r.label())
	}
	for r.said("part") {
		o.Parts = append(o.Parts, r.part())
	}
	q.Object = o
	return q
}

func (r *reader) label() api.Label {
	key, value, is := strings.Cut(r.word(), "=")
	refuse(!is)
	return api.Label{Key: key, Value: value}
}

// part reads what stands behind the word part; it may be called like any other word of the form.
func (r *reader) part() api.Part {
	p := api.Part{Name: r.word()}
	if r.said("req") {
		p.Requests = r.amounts()
	}
	if r.said("lim") {
		p.Limits = r.amounts()
	}
	return p
}

// amounts reads as many as there are: no word that says what follows has a "=".
func (r *reader) amounts() []api.Amount {
	var l []api.Amount
	for strings.Contains(r.peek(), "=") {
		name, text, _ := strings.Cut(r.word(), "=")
		l = append(l, api.Amount{Name: name, Value: quantityOf(text)})
	}
	return l
}

// quantity reads one that may be left out.
func (r *reader) quantity(begin string) int64 {
	if text, is := r.option(begin); is {
		return quantityOf(text)
	}
	return unset
}

func quantityOf(text string) int64 {
	v, e := quant.Parse(text)
	refuse(e != api.OK)
	return v
}

// must reads the version that must be there; 0: any.
func (r *reader) must() int64 {
	if text, is := r.option("must="); is {
		return versionOf(text)
	}
	return 0
}

// most reads how many are told at most.
func (r *reader) most() int {
	if text, is := r.option("most="); is {
		return int(numberOf(text))
	}
	return mostUnsaid
}

func (r *reader) remove() api.Request {
	q := r.named(api.OpDelete)
	q.Version = r.must()
	return q
}

func (r *reader) list() api.Request {
	q := api.Request{Op: api.OpList, Path: r.word()}
	q.Deep = r.said("deep")
	q.From, _ = r.option("from=")
	q.Most = r.most()
	if r.said("where") {
		q.Terms = r.selector()
	}
	return q
}

// selector takes all that is left, its blanks too: they part a term's values.
func (r *reader) selector() []api.Term {
	terms, e := label.Parse(r.rest)
	refuse(e != api.OK)
	r.rest = ""
	return terms
}

func (r *reader) watch() api.Request {
	q := api.Request{Op: api.OpWatch, Path: r.word()}
	q.Version = versionOf(r.word())
	q.Most = r.most()
	return q
}

func (r *reader) bind() api.Request {
	q := r.named(api.OpBind)
	subject := r.word()
	q.Binding = api.Binding{Path: q.Path, Name: q.Name, Subject: subject, Verb: r.verb()}
	return q
}

func (r *reader) verb() int {
	word := r.word()
	for v, text := range verbs {
		if text == word {
			return v
		}
	}
	panic(noForm)
}
