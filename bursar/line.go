package bursar

// lineForms: what reads a line, by its first word.
func lineForms() map[string]func(*reader) command {
	return map[string]func(*reader) command{
		"new":    (*reader).newLine,
		"open":   (*reader).openLine,
		"as":     (*reader).asLine,
		"raw":    (*reader).rawLine,
		"arm":    (*reader).armLine,
		"crash":  (*reader).crashLine,
		"edit":   (*reader).editLine,
		"counts": (*reader).countsLine,
		"dump":   (*reader).dumpLine,
		"fsck":   (*reader).fsckLine,
		"export": (*reader).exportLine,
		"import": (*reader).importLine,
		"swap":   (*reader).swapLine,
	}
}

// command reads a whole line.
func (r *reader) command() command {
	if r.rest == "" {
		return emptyLine{}
	}
	form, is := lineForms()[r.word()]
	refuse(!is)
	return form(r)
}

func (r *reader) openLine() command   { return openLine{} }
func (r *reader) countsLine() command { return countsLine{} }
func (r *reader) dumpLine() command   { return dumpLine{} }
func (r *reader) exportLine() command { return exportLine{} }
func (r *reader) swapLine() command   { return swapLine{} }
func (r *reader) rawLine() command    { return rawLine{bytes: r.bytes()} }
func (r *reader) armLine() command    { return armLine{acts: r.number()} }
func (r *reader) crashLine() command  { return crashLine{fates: r.fates()} }
func (r *reader) fsckLine() command   { return fsckLine{most: r.number()} }

func (r *reader) newLine() command {
	blocks, log := r.number(), r.number()
	return newLine{blocks: blocks, log: log}
}

func (r *reader) importLine() command {
	blocks, log := r.number(), r.number()
	return importLine{blocks: blocks, log: log}
}

func (r *reader) editLine() command {
	block, at := r.number(), r.number()
	return editLine{block: block, at: at, bytes: r.bytes()}
}

func (r *reader) asLine() command {
	subject := r.word()
	q := r.request()
	q.Subject = subject
	return asLine{request: q}
}
