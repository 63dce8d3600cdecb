package bursar_test

import (
	"fmt"
	"math/big"
	"regexp"
	"slices"
	"strings"

	"bursar/api"
	"bursar/ask"
	"bursar/backup"
	"bursar/dev"
	"bursar/fsck"
	"bursar/label"
	"bursar/quant"
	"bursar/scope"
	"bursar/server"
	"bursar/store"
)

// The chapter's tables said over again: every form is asked for all ways in which it can read the words of a line.

// word: with the blanks ahead of it.
type word struct{ ahead, text string }

// way: what one way of reading leaves, and what was said so far.
type way struct {
	rest []word
	says []func(*line)
}

// line: what the ways of a line say.
type line struct {
	name    string
	numbers []int
	bytes   []byte
	fates   []api.Fate
	request api.Request
	amounts *[]api.Amount // where amounts belong just now
}

type form func(way) []way

// says: a word is taken if it can be; what it says is done later.
func says(take func(text string) func(*line)) form {
	return func(w way) []way {
		if len(w.rest) == 0 {
			return nil
		}
		said := take(w.rest[0].text)
		if said == nil {
			return nil
		}
		return []way{{w.rest[1:], append(slices.Clone(w.says), said)}}
	}
}

func nothing(*line) {}

func lit(text string) form {
	return says(func(s string) func(*line) {
		if s == text {
			return nothing
		}
		return nil
	})
}

// sets: no word is taken, and something is said.
func sets(said func(*line)) form {
	return func(w way) []way { return []way{{w.rest, append(slices.Clone(w.says), said)}} }
}

// begun takes a word that begins so, and whose rest can be taken.
func begun(begin string, take func(text string) func(*line)) form {
	return says(func(s string) func(*line) {
		if rest, is := strings.CutPrefix(s, begin); is {
			return take(rest)
		}
		return nil
	})
}

func seq(l ...form) form {
	return func(w way) []way {
		ways := []way{w}
		for _, f := range l {
			var next []way
			for _, w := range ways {
				next = append(next, f(w)...)
			}
			ways = next
		}
		return ways
	}
}

func alt(l ...form) form {
	return func(w way) []way {
		var ways []way
		for _, f := range l {
			ways = append(ways, f(w)...)
		}
		return ways
	}
}

func opt(l ...form) form { return alt(seq(), seq(l...)) }

func many(l ...form) form {
	return func(w way) []way {
		ways := []way{w}
		for _, next := range seq(l...)(w) {
			ways = append(ways, many(l...)(next)...)
		}
		return ways
	}
}

var (
	numberForm  = regexp.MustCompile(`^-?[0-9]{1,10}$`)
	versionForm = regexp.MustCompile(`^[0-9]{1,19}$`)
	bytesForm   = regexp.MustCompile(`^:([0-9a-f]{2})*$`) // a line has no room for more than 4096 digits
	fatesForm   = regexp.MustCompile(`^(-|(k|d|t[0-9]{1,10})(,(k|d|t[0-9]{1,10}))*)$`)
	wordForm    = regexp.MustCompile(`([ \t]*)([^ \t]+)`)
)

func numberIn(set func(*line, int64)) func(string) func(*line) {
	return func(s string) func(*line) {
		if !numberForm.MatchString(s) {
			return nil
		}
		n, _ := new(big.Int).SetString(s, 10)
		return func(l *line) { set(l, n.Int64()) }
	}
}

func versionIn(s string) func(*line) {
	if !versionForm.MatchString(s) {
		return nil
	}
	n, _ := new(big.Int).SetString(s, 10)
	if n.Cmp(new(big.Int).Lsh(big.NewInt(1), 62)) > 0 {
		return nil
	}
	return func(l *line) { l.request.Version = n.Int64() }
}

func anyWord(set func(*line, string)) form {
	return says(func(s string) func(*line) { return func(l *line) { set(l, s) } })
}

func num() form {
	return says(numberIn(func(l *line, n int64) { l.numbers = append(l.numbers, int(n)) }))
}

func bytesIn(s string) func(*line) {
	if !bytesForm.MatchString(s) {
		return nil
	}
	return func(l *line) { fmt.Sscanf(s[1:], "%x", &l.bytes) }
}

func fatesIn(s string) func(*line) {
	if !fatesForm.MatchString(s) {
		return nil
	}
	var l []api.Fate
	for _, p := range strings.Split(s, ",") {
		f := api.Fate{Kind: map[byte]int{'k': api.Kept, 'd': api.Dropped, 't': api.Torn}[p[0]]}
		if p[0] == 't' {
			n, _ := new(big.Int).SetString(p[1:], 10)
			if n.Cmp(big.NewInt(512)) > 0 {
				return nil
			}
			f.At = int(n.Int64())
		}
		l = append(l, f)
	}
	if s == "-" {
		l = nil
	}
	if len(l) > 512 {
		return nil
	}
	return func(to *line) { to.fates = l }
}

func op(n int) form { return sets(func(l *line) { l.request.Op = n }) }

func path() form { return anyWord(func(l *line, s string) { l.request.Path = s }) }
func name() form { return anyWord(func(l *line, s string) { l.request.Name = s }) }

func pair(set func(l *line, key string, v int64)) form {
	return says(func(s string) func(*line) {
		key, text, is := strings.Cut(s, "=")
		v, errno := quant.Parse(text)
		if !is || errno != api.OK {
			return nil
		}
		return func(l *line) { set(l, key, v) }
	})
}

func amountsForm() form {
	return many(pair(func(l *line, key string, v int64) { *l.amounts = append(*l.amounts, api.Amount{Name: key, Value: v}) }))
}

func quotaForm() form {
	scopeWord := says(func(s string) func(*line) {
		k, errno := scope.Parse(s)
		if errno != api.OK {
			return nil
		}
		return func(l *line) {
			l.request.Quota = api.Quota{Path: l.request.Path, Name: l.request.Name, Scope: k}
			l.amounts = &l.request.Quota.Hard
		}
	})
	return alt(seq(lit("set"), op(api.OpQuotaSet), path(), name(), scopeWord, amountsForm()), seq(lit("drop"), op(api.OpQuotaDrop), path(), name()))
}

func limitForm() form {
	last := func(l *line) *api.Rule { return &l.request.Limit.Rules[len(l.request.Limit.Rules)-1] }
	said := func(begin string, at func(*api.Rule) *int64) form {
		return opt(begun(begin+"=", func(s string) func(*line) {
			v, errno := quant.Parse(s)
			if errno != api.OK {
				return nil
			}
			return func(l *line) { *at(last(l)) = v }
		}))
	}
	ruleForm := seq(lit("rule"), anyWord(func(l *line, s string) { l.request.Limit.Rules = append(l.request.Limit.Rules, rule(s)) }),
		said("min", func(r *api.Rule) *int64 { return &r.Min }), said("max", func(r *api.Rule) *int64 { return &r.Max }), said("default", func(r *api.Rule) *int64 { return &r.Default }),
		said("request", func(r *api.Rule) *int64 { return &r.Request }), said("ratio", func(r *api.Rule) *int64 { return &r.Ratio }))
	begins := sets(func(l *line) { l.request.Limit = api.LimitRange{Path: l.request.Path, Name: l.request.Name} })
	return alt(seq(lit("set"), op(api.OpLimitSet), path(), name(), begins, many(ruleForm)), seq(lit("drop"), op(api.OpLimitDrop), path(), name()))
}

func objectForm() form {
	last := func(l *line) *api.Part { return &l.request.Object.Parts[len(l.request.Object.Parts)-1] }
	begins := sets(func(l *line) { l.request.Object = api.Object{Path: l.request.Path, Name: l.request.Name} })
	labelForm := seq(lit("label"), says(func(s string) func(*line) {
		key, value, is := strings.Cut(s, "=")
		if !is {
			return nil
		}
		return func(l *line) {
			l.request.Object.Labels = append(l.request.Object.Labels, api.Label{Key: key, Value: value})
		}
	}))
	partForm := seq(lit("part"), anyWord(func(l *line, s string) { l.request.Object.Parts = append(l.request.Object.Parts, api.Part{Name: s}) }),
		opt(lit("req"), sets(func(l *line) { l.amounts = &last(l).Requests }), amountsForm()), opt(lit("lim"), sets(func(l *line) { l.amounts = &last(l).Limits }), amountsForm()))
	return seq(path(), name(), begins, opt(begun("prio=", numberIn(func(l *line, n int64) { l.request.Object.Priority = int(n) }))), opt(begun("ends=", numberIn(func(l *line, n int64) { l.request.Object.Deadline = n }))),
		opt(begun("must=", versionIn)), many(labelForm), many(partForm))
}

func mostForm() form {
	return seq(sets(func(l *line) { l.request.Most = 100 }), opt(begun("most=", numberIn(func(l *line, n int64) { l.request.Most = int(n) }))))
}

func listForm() form {
	selector := func(w way) []way {
		var b strings.Builder
		for i, x := range w.rest {
			if i > 0 {
				b.WriteString(x.ahead)
			}
			b.WriteString(x.text)
		}
		terms, errno := label.Parse(b.String())
		if errno != api.OK {
			return nil
		}
		return sets(func(l *line) { l.request.Terms = terms })(way{nil, w.says})
	}
	return seq(op(api.OpList), path(), opt(lit("deep"), sets(func(l *line) { l.request.Deep = true })), opt(begun("from=", func(s string) func(*line) { return func(l *line) { l.request.From = s } })), mostForm(), opt(lit("where"), selector))
}

func bindForm() form {
	var verbs []form
	for v, text := range []string{"read", "write", "govern", "bind"} {
		verbs = append(verbs, seq(lit(text), sets(func(l *line) {
			l.request.Binding.Path, l.request.Binding.Name, l.request.Binding.Verb = l.request.Path, l.request.Name, v
		})))
	}
	return seq(op(api.OpBind), path(), name(), anyWord(func(l *line, s string) { l.request.Binding.Subject = s }), alt(verbs...))
}

func requestForm() form {
	dry := opt(lit("dry"), sets(func(l *line) { l.request.Dry = true }))
	return seq(dry, alt(
		seq(lit("node"), lit("add"), op(api.OpNodeAdd), path()), seq(lit("node"), lit("drop"), op(api.OpNodeDrop), path()),
		seq(lit("quota"), quotaForm()), seq(lit("limit"), limitForm()),
		seq(lit("create"), op(api.OpCreate), objectForm()), seq(lit("update"), op(api.OpUpdate), objectForm()), seq(lit("evict"), op(api.OpEvict), objectForm()),
		seq(lit("delete"), op(api.OpDelete), path(), name(), opt(begun("must=", versionIn))),
		seq(lit("get"), op(api.OpGet), path(), name()), seq(lit("nodes"), op(api.OpGet), path()),
		seq(lit("list"), listForm()), seq(lit("status"), op(api.OpStatus), path(), name()),
		seq(lit("watch"), op(api.OpWatch), path(), says(versionIn), mostForm()),
		seq(lit("bind"), bindForm()), seq(lit("unbind"), op(api.OpUnbind), path(), name()),
		seq(lit("sync"), op(api.OpSync)), seq(lit("checkpoint"), op(api.OpCheckpoint)), seq(lit("stat"), op(api.OpStat))))
}

func lineForm() form {
	named := func(name string, l ...form) form {
		return seq(append([]form{lit(name), sets(func(l *line) { l.name = name })}, l...)...)
	}
	subject := anyWord(func(l *line, s string) { l.request.Subject = s })
	return alt(named("new", num(), num()), named("open"), named("as", subject, requestForm()), named("raw", says(bytesIn)), named("arm", num()), named("crash", says(fatesIn)), named("edit", num(), num(), says(bytesIn)),
		named("counts"), named("dump"), named("fsck", num()), named("export"), named("import", num(), num()), named("swap"), seq())
}

// readings tells all ways in which a text can be read to its end.
func readings(text string, f form) []line {
	if strings.Contains(text, "\n") {
		return nil
	}
	text, _, _ = strings.Cut(text, "#")
	var words []word
	for _, m := range wordForm.FindAllStringSubmatch(text, -1) {
		words = append(words, word{m[1], m[2]})
	}
	var l []line
	for _, w := range f(way{rest: words}) {
		if len(w.rest) > 0 {
			continue
		}
		var one line
		for _, said := range w.says {
			said(&one)
		}
		l = append(l, one)
	}
	return l
}

// paper: a world by the chapter's table of lines.
type paper struct {
	devices [2]*dev.Dev
	servers [2]*server.Server
	at      int
	stream  []byte
}

func no(errno api.Errno) string { return fmt.Sprintf("no %d\n", errno) }

func okay(errno api.Errno) string {
	if errno != api.OK {
		return no(errno)
	}
	return "ok\n"
}

// do does what a line says and tells its text.
func (p *paper) do(l line) string {
	d, s := p.devices[p.at], p.servers[p.at]
	lacks := map[string]bool{"as": s == nil, "raw": s == nil, "dump": s == nil, "import": p.stream == nil, "open": d == nil, "arm": d == nil, "crash": d == nil, "edit": d == nil, "counts": d == nil, "fsck": d == nil, "export": d == nil}
	if lacks[l.name] {
		return "no 191\n"
	}
	switch l.name {
	case "new", "import":
		return p.lay(l)
	case "open":
		p.servers[p.at] = nil
		s, errno := server.Open(d)
		if errno != api.OK {
			return no(errno)
		}
		p.servers[p.at] = s
		return fmt.Sprintf("ok %d\n", s.Version())
	case "as":
		return tellPaper(l.request.Op, s.Do(l.request))
	case "raw":
		op, r, _ := ask.DecodeReply(s.Handle(l.bytes))
		return tellPaper(op, r)
	case "arm":
		return okay(d.Arm(l.numbers[0]))
	case "crash":
		p.servers[p.at] = nil
		return fmt.Sprintf("ok %d\n", d.Crash(l.fates))
	case "edit":
		return okay(d.Edit(l.numbers[0], l.numbers[1], l.bytes))
	case "counts":
		return fmt.Sprintf("ok %d %d %d\n", d.Counts().Reads, d.Counts().Writes, d.Counts().Flushes)
	case "dump":
		all, errno := s.Dump()
		if errno != api.OK {
			return no(errno)
		}
		return dumpPaper(all)
	case "fsck":
		found, errno := fsck.Check(d, l.numbers[0])
		if errno != api.OK {
			return no(errno)
		}
		told := fmt.Sprintf("ok %d\n", len(found))
		for _, f := range found {
			told += fmt.Sprintf("problem %d %d\n", f.Rule, f.Block)
		}
		return told
	case "export":
		return p.export(d)
	case "swap":
		p.at = 1 - p.at
		return fmt.Sprintf("ok %d\n", p.at)
	}
	return ""
}

func (p *paper) lay(l line) string {
	d, errno := dev.New(l.numbers[0])
	if errno != api.OK {
		return no(errno)
	}
	if l.name == "new" {
		errno = server.Format(d, l.numbers[1])
	} else {
		errno = backup.Import(d, l.numbers[1], p.stream)
	}
	if errno == api.OK {
		p.devices[p.at], p.servers[p.at] = d, nil
	}
	return okay(errno)
}

func (p *paper) export(d *dev.Dev) string {
	p.servers[p.at] = nil
	s, errno := store.Open(d)
	if errno != api.OK {
		return no(errno)
	}
	stream, errno := backup.Export(s)
	if errno == api.OK {
		p.stream = stream
	}
	return okay(errno)
}

// dash: how an empty word is told.
func dash(s string) string {
	if s == "" {
		return "-"
	}
	return s
}

func tellPaper(op int, r api.Reply) string {
	if r.Code != api.OK {
		return fmt.Sprintf("no %d %d %s %s %s %s\n", r.Code, r.Version, dash(r.Detail.Path), dash(r.Detail.Name), dash(r.Detail.Part), dash(r.Detail.Resource))
	}
	told := fmt.Sprintf("ok %d\n", r.Version)
	if slices.Contains([]int{api.OpGet, api.OpList, api.OpCreate, api.OpUpdate, api.OpDelete, api.OpEvict}, op) {
		for _, o := range r.Objects {
			told += objectPaper(o)
		}
	}
	if op == api.OpStatus {
		for _, l := range r.Lines {
			told += fmt.Sprintf("line %s %s %s\n", dash(l.Resource), dash(quant.Print(l.Hard)), dash(quant.Print(l.Used)))
		}
	}
	if op == api.OpWatch {
		for _, e := range r.Events {
			told += fmt.Sprintf("event %d %d %d %s %s\n", e.Version, e.Kind, map[bool]int{true: 1}[e.Gone], dash(e.Path), dash(e.Name))
		}
	}
	if op == api.OpGet {
		for _, n := range r.Names {
			told += "name " + dash(n) + "\n"
		}
	}
	if (op == api.OpList || op == api.OpGet) && r.More {
		told += "more\n"
	}
	if op == api.OpStat {
		s := r.Stat
		told += fmt.Sprintf("stat %d %d %d %d %d %d\n", s.Generation, s.Epoch, s.Version, s.LogFree, s.Entries, s.Unsynced)
	}
	return told
}

func amountsPaper(l []api.Amount) string {
	told := ""
	for _, a := range l {
		told += " " + a.Name + "=" + quant.Print(a.Value)
	}
	return told
}

func objectPaper(o api.Object) string {
	told := fmt.Sprintf("object %s %s %d %d %d", dash(o.Path), dash(o.Name), o.Priority, o.Deadline, o.Version)
	for _, l := range o.Labels {
		told += " label " + l.Key + "=" + l.Value
	}
	for _, p := range o.Parts {
		told += " part " + dash(p.Name)
		if len(p.Requests) > 0 {
			told += " req" + amountsPaper(p.Requests)
		}
		if len(p.Limits) > 0 {
			told += " lim" + amountsPaper(p.Limits)
		}
	}
	return told + "\n"
}

func scopePaper(s api.Scope) string {
	told, _ := scope.Print(s)
	return dash(told)
}

func dumpPaper(d api.Dump) string {
	var b strings.Builder
	fmt.Fprintf(&b, "ok %d\n", d.Version)
	for _, n := range d.Nodes {
		fmt.Fprintf(&b, "node %s\n", dash(n))
	}
	for _, q := range d.Quotas {
		fmt.Fprintf(&b, "quota %s %s %s%s\n", dash(q.Path), dash(q.Name), scopePaper(q.Scope), amountsPaper(q.Hard))
	}
	for _, l := range d.Limits {
		fmt.Fprintf(&b, "limit %s %s", dash(l.Path), dash(l.Name))
		for _, r := range l.Rules {
			fmt.Fprintf(&b, " rule %s", dash(r.Resource))
			for i, v := range []int64{r.Min, r.Max, r.Default, r.Request, r.Ratio} {
				if v != -1 {
					fmt.Fprintf(&b, " %s=%s", []string{"min", "max", "default", "request", "ratio"}[i], quant.Print(v))
				}
			}
		}
		b.WriteString("\n")
	}
	for _, o := range d.Objects {
		b.WriteString(objectPaper(o))
	}
	for _, x := range d.Bindings {
		verb := map[int]string{api.Read: "read", api.Write: "write", api.Govern: "govern", api.Bind: "bind"}[x.Verb]
		fmt.Fprintf(&b, "bind %s %s %s %s\n", dash(x.Path), dash(x.Name), dash(x.Subject), dash(verb))
	}
	for _, u := range d.Uses {
		fmt.Fprintf(&b, "use %s %s %s %s\n", dash(u.Path), scopePaper(u.Scope), dash(u.Resource), dash(quant.Print(u.Value)))
	}
	return b.String()
}
