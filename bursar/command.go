package bursar

import (
	"bursar/api"
	"bursar/ask"
	"bursar/backup"
	"bursar/dev"
	"bursar/fsck"
	"bursar/server"
	"bursar/store"
)

// command: what a line is, one of a sum.
type command interface {
	ready(w *World) bool // whether what it needs is there: looked at ahead of all else
	do(w *World) string  // does it, and tells its text
}

// What a command may need; each has one of these in it.
type (
	needsNothing struct{}
	needsDevice  struct{}
	needsServer  struct{}
	needsStream  struct{}
)

func (needsNothing) ready(w *World) bool { return true }
func (needsDevice) ready(w *World) bool  { return w.device != nil }
func (needsServer) ready(w *World) bool  { return w.server != nil }
func (needsStream) ready(w *World) bool  { return w.stream != nil }

// The sum: what each kind of line says beside its name.
type (
	emptyLine struct{ needsNothing }
	newLine   struct {
		needsNothing
		blocks, log int
	}
	openLine struct{ needsDevice }
	asLine   struct {
		needsServer
		request api.Request
	}
	rawLine struct {
		needsServer
		bytes []byte
	}
	armLine struct {
		needsDevice
		acts int
	}
	crashLine struct {
		needsDevice
		fates []api.Fate
	}
	editLine struct {
		needsDevice
		block, at int
		bytes     []byte
	}
	countsLine struct{ needsDevice }
	dumpLine   struct{ needsServer }
	fsckLine   struct {
		needsDevice
		most int
	}
	exportLine struct{ needsDevice }
	importLine struct {
		needsStream
		blocks, log int
	}
	swapLine struct{ needsNothing }
)

// run does a command, if what it needs is there, and tells its text; an empty line has none.
func (w *World) run(c command) string {
	switch c.(type) {
	case emptyLine:
		return ""
	default:
		if !c.ready(w) {
			return refused(api.ErrMissing)
		}
		return c.do(w)
	}
}

// place gives the current machine a new device, unless something refused it.
func (w *World) place(d *dev.Dev, e api.Errno) string {
	if e != api.OK {
		return refused(e)
	}
	w.machine = machine{device: d}
	return done()
}

func (c emptyLine) do(w *World) string { return "" }

func (c newLine) do(w *World) string {
	d, e := dev.New(c.blocks)
	if e == api.OK {
		e = server.Format(d, c.log)
	}
	return w.place(d, e)
}

func (c openLine) do(w *World) string {
	w.server = nil // also where the device refuses another
	s, e := server.Open(w.device)
	if e != api.OK {
		return refused(e)
	}
	w.server = s
	return done(s.Version())
}

func (c asLine) do(w *World) string { return Tell(c.request.Op, w.server.Do(c.request)) }

func (c rawLine) do(w *World) string {
	op, r, e := ask.DecodeReply(w.server.Handle(c.bytes))
	if e != api.OK {
		return refused(e)
	}
	return Tell(op, r)
}

func (c armLine) do(w *World) string { return outcome(w.device.Arm(c.acts)) }

func (c crashLine) do(w *World) string {
	w.server = nil
	return done(int64(w.device.Crash(c.fates)))
}

func (c editLine) do(w *World) string { return outcome(w.device.Edit(c.block, c.at, c.bytes)) }

func (c countsLine) do(w *World) string {
	n := w.device.Counts()
	return done(int64(n.Reads), int64(n.Writes), int64(n.Flushes))
}

func (c dumpLine) do(w *World) string {
	d, e := w.server.Dump()
	if e != api.OK {
		return refused(e)
	}
	return Dump(d)
}

func (c fsckLine) do(w *World) string {
	l, e := fsck.Check(w.device, c.most)
	if e != api.OK {
		return refused(e)
	}
	return done(int64(len(l))) + each(l, problemLine)
}

func (c exportLine) do(w *World) string {
	w.server = nil // a device has one store at a time, and this one is opened for the stream alone
	s, e := store.Open(w.device)
	if e != api.OK {
		return refused(e)
	}
	stream, e := backup.Export(s)
	if e != api.OK {
		return refused(e)
	}
	w.stream = stream
	return done()
}

func (c importLine) do(w *World) string {
	d, e := dev.New(c.blocks)
	if e == api.OK {
		e = backup.Import(d, c.log, w.stream)
	}
	return w.place(d, e)
}

func (c swapLine) do(w *World) string {
	w.machine, w.other = w.other, w.machine
	w.number = 1 - w.number
	return done(int64(w.number))
}
