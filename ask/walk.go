package ask

import "bursar/api"

// walkRequest goes through all that stands behind a request's operation.
func walkRequest(h hand, r *api.Request) {
	h.text(&r.Subject)
	walkAsked(h, r)
	if Changes(r.Op) { // where Dry stands, it stands last
		h.truth(&r.Dry)
	}
}

func walkAsked(h hand, r *api.Request) {
	switch r.Op {
	case api.OpNodeAdd, api.OpNodeDrop:
		h.text(&r.Path)
	case api.OpQuotaDrop, api.OpLimitDrop, api.OpUnbind, api.OpGet, api.OpStatus:
		h.text(&r.Path)
		h.text(&r.Name)
	case api.OpDelete:
		h.text(&r.Path)
		h.text(&r.Name)
		h.number(&r.Version)
	case api.OpQuotaSet:
		walkQuota(h, &r.Quota)
	case api.OpLimitSet:
		walkLimit(h, &r.Limit)
	case api.OpBind:
		walkBinding(h, &r.Binding)
	case api.OpCreate, api.OpEvict:
		walkObject(h, &r.Object)
	case api.OpUpdate:
		walkObject(h, &r.Object)
		h.number(&r.Version)
	case api.OpList:
		h.text(&r.Path)
		h.truth(&r.Deep)
		walkList(h, &r.Terms, walkTerm)
		h.text(&r.From)
		h.integer(&r.Most)
	case api.OpWatch:
		h.text(&r.Path)
		h.number(&r.Version)
		h.integer(&r.Most)
	}
}

// walkReply goes through all that stands behind the operation that a reply is to.
func walkReply(h hand, op int, r *api.Reply) {
	code := int(r.Code)
	h.integer(&code)
	r.Code = api.Errno(code)
	h.number(&r.Version)
	if r.Code == api.OK {
		walkTold(h, op, r)
	} else {
		walkDetail(h, &r.Detail)
	}
}

func walkTold(h hand, op int, r *api.Reply) {
	switch op {
	case api.OpCreate, api.OpUpdate, api.OpDelete, api.OpEvict:
		walkList(h, &r.Objects, walkObject)
	case api.OpGet:
		walkList(h, &r.Objects, walkObject)
		walkList(h, &r.Names, walkText)
		h.truth(&r.More)
	case api.OpList:
		walkList(h, &r.Objects, walkObject)
		h.truth(&r.More)
	case api.OpStatus:
		walkList(h, &r.Lines, walkLine)
	case api.OpWatch:
		walkList(h, &r.Events, walkEvent)
	case api.OpStat:
		walkStat(h, &r.Stat)
	}
}

func walkText(h hand, s *string) { h.text(s) }

func walkObject(h hand, o *api.Object) {
	h.text(&o.Path)
	h.text(&o.Name)
	walkList(h, &o.Labels, walkLabel)
	h.integer(&o.Priority)
	h.number(&o.Deadline)
	walkList(h, &o.Parts, walkPart)
	h.number(&o.Version)
}

func walkLabel(h hand, l *api.Label) {
	h.text(&l.Key)
	h.text(&l.Value)
}

func walkPart(h hand, p *api.Part) {
	h.text(&p.Name)
	walkList(h, &p.Requests, walkAmount)
	walkList(h, &p.Limits, walkAmount)
}

func walkAmount(h hand, a *api.Amount) {
	h.text(&a.Name)
	h.number(&a.Value)
}

func walkQuota(h hand, q *api.Quota) {
	h.text(&q.Path)
	h.text(&q.Name)
	h.integer(&q.Scope.Kind)
	h.integer(&q.Scope.Arg)
	walkList(h, &q.Hard, walkAmount)
}

func walkLimit(h hand, l *api.LimitRange) {
	h.text(&l.Path)
	h.text(&l.Name)
	walkList(h, &l.Rules, walkRule)
}

func walkRule(h hand, r *api.Rule) {
	h.text(&r.Resource)
	h.number(&r.Min)
	h.number(&r.Max)
	h.number(&r.Default)
	h.number(&r.Request)
	h.number(&r.Ratio)
}

func walkBinding(h hand, b *api.Binding) {
	h.text(&b.Path)
	h.text(&b.Name)
	h.text(&b.Subject)
	h.integer(&b.Verb)
}

func walkTerm(h hand, t *api.Term) {
	h.text(&t.Key)
	h.integer(&t.How)
	walkList(h, &t.Values, walkText)
}

func walkLine(h hand, l *api.Line) {
	h.text(&l.Resource)
	h.number(&l.Hard)
	h.number(&l.Used)
}

func walkEvent(h hand, e *api.Event) {
	h.number(&e.Version)
	h.integer(&e.Kind)
	h.truth(&e.Gone)
	h.text(&e.Path)
	h.text(&e.Name)
}

func walkStat(h hand, s *api.Stat) {
	h.number(&s.Generation)
	h.number(&s.Epoch)
	h.number(&s.Version)
	h.integer(&s.LogFree)
	h.integer(&s.Entries)
	h.integer(&s.Unsynced)
}

func walkDetail(h hand, d *api.Detail) {
	h.text(&d.Path)
	h.text(&d.Name)
	h.text(&d.Part)
	h.text(&d.Resource)
}
