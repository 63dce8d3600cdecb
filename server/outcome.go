package server

import (
	"bursar/api"
	"bursar/object"
)

// outcome: what comes of a request, found out while the state is still as it was.
type outcome struct {
	reply   api.Reply
	records []record // that go and come, in the order of their events
	settle  func()   // does the same in memory; what was found out isn't refused there
}

// operation finds out what comes of a request.
type operation func(*Server, api.Request) outcome

// operations tells them by their numbers.
func operations() [api.OpEnd]operation {
	return [api.OpEnd]operation{
		api.OpNodeAdd:    (*Server).addNode,
		api.OpNodeDrop:   (*Server).dropNode,
		api.OpQuotaSet:   (*Server).setQuota,
		api.OpQuotaDrop:  (*Server).dropQuota,
		api.OpLimitSet:   (*Server).setLimit,
		api.OpLimitDrop:  (*Server).dropLimit,
		api.OpCreate:     (*Server).create,
		api.OpUpdate:     (*Server).update,
		api.OpDelete:     (*Server).remove,
		api.OpGet:        (*Server).get,
		api.OpList:       (*Server).list,
		api.OpStatus:     (*Server).status,
		api.OpWatch:      (*Server).watch,
		api.OpBind:       (*Server).bind,
		api.OpUnbind:     (*Server).unbind,
		api.OpEvict:      (*Server).evict,
		api.OpSync:       (*Server).sync,
		api.OpCheckpoint: (*Server).checkpoint,
		api.OpStat:       (*Server).stat,
	}
}

// looking: the operations that leave the state as it is. What a Sync or a Checkpoint moves is not the state, but where it lies.
var looking = [...]int{api.OpGet, api.OpList, api.OpStatus, api.OpWatch, api.OpSync, api.OpCheckpoint, api.OpStat}

func looks(op int) bool {
	for _, one := range looking {
		if one == op {
			return true
		}
	}
	return false
}

func (s *Server) refused(errno api.Errno) outcome { return s.refusedBy(errno, api.Detail{}) }

func (s *Server) refusedBy(errno api.Errno, detail api.Detail) outcome {
	return outcome{reply: s.refusal(errno, detail)}
}

// told: it is done, or could be, and this is told.
func (s *Server) told(reply api.Reply) outcome {
	reply.Version = s.Version()
	return outcome{reply: reply}
}

// change: it could be done, with these objects told.
func (s *Server) change(objects []api.Object, settle func(), records ...record) outcome {
	out := s.told(api.Reply{Objects: objects})
	out.records, out.settle = records, settle
	return out
}

// record: of the state, which goes, or comes with its value.
type record struct {
	kind       int
	path, name string
	value      string
	gone       bool
}

func coming(kind int, path, name, value string) record {
	return record{kind: kind, path: path, name: name, value: value}
}

func going(kind int, path, name string) record {
	return record{kind: kind, path: path, name: name, gone: true}
}

// objectComing: one that a world has taken is valid, so it has its bytes.
func objectComing(o api.Object) record {
	value, _ := object.EncodeObject(o)
	return coming(api.KindObject, o.Path, o.Name, value)
}

// changes tells what the store is to do.
func changes(records []record) []api.Change {
	var l []api.Change
	for _, r := range records {
		key, _ := object.Key(r.kind, r.path, r.name) // it was judged ahead, so it has one
		l = append(l, api.Change{Key: key, Value: r.value, Gone: r.gone})
	}
	return l
}

// events tells what the hub is to tell.
func events(records []record, version int64) []api.Event {
	var l []api.Event
	for _, r := range records {
		l = append(l, api.Event{Version: version, Kind: r.kind, Gone: r.gone, Path: r.path, Name: r.name})
	}
	return l
}
