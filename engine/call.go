package engine

import (
	"slices"

	"flume/api"
)

// call is a call that was begun, and where it stands.
type call struct {
	engine *Engine
	id     int
	kind   int
	data   []byte // its record's, until that is reserved
	record int64  // the LSN that was reserved for it; 0: none was
	lsn    int64  // that it asks for or, once it waits, must last
	state  state
	result api.Result // once it is done
}

// state is where a call stands: what its next step does, which gives the state
// behind it, and whether that step may be made now.
type state struct {
	number int // as State tells it
	ready  func() bool
	step   func() state
}

// failure is what a step panics with that has the engine fail: its cause, and
// where the call stands behind it.
type failure struct {
	cause api.Errno
	next  state
}

// may is why a call can't be begun with any engine, or OK.
func may(c api.Call) api.Errno {
	usesLSN, usesData := false, false
	switch c.Kind {
	case api.CallAppend, api.CallAsync:
		usesData = true
	case api.CallRead, api.CallNext, api.CallTruncate:
		usesLSN = true
	case api.CallSync, api.CallClose:
	default:
		return api.ErrKind
	}
	if c.LSN != 0 && !usesLSN || len(c.Data) > 0 && !usesData {
		return api.ErrArg
	}
	return api.OK
}

func newCall(e *Engine, id int, asked api.Call) *call {
	// One byte beyond what a record may have tells as well as all that it is too long.
	n := min(len(asked.Data), api.MaxData+1)
	c := &call{engine: e, id: id, kind: asked.Kind, data: slices.Clone(asked.Data[:n]), lsn: asked.LSN}
	c.state = state{api.StateStart, always, c.first()}
	return c
}

func always() bool { return true }

func (c *call) isDone() bool {
	return c.state.number == api.StateDone
}

// step makes the call's step; it is ready.
func (c *call) step() {
	defer func() {
		if x := recover(); x != nil {
			c.state = c.engine.fail(x)
		}
	}()
	c.state = c.state.step()
}

// fail has the engine fail for good, of what was recovered, and gives where
// the call stands by whose step that came.
func (e *Engine) fail(x any) state {
	f, ok := x.(failure)
	if !ok {
		panic(x) // a fault of the program, not of the log: it is not hidden
	}
	e.cause = f.cause
	e.queue.Clear()
	clear(e.datas)
	e.leader = nil
	return f.next
}

// must has the engine fail, unless the store's answer is OK; next is where the
// call stands then.
func (e *Engine) must(err api.Errno, next state) {
	switch err {
	case api.OK:
		return
	case api.ErrFailed:
		err = e.store.Look().Cause
	}
	panic(failure{err, next})
}

// done ends a call.
func (c *call) done(r api.Result) state {
	c.result = r
	c.data = nil
	return state{number: api.StateDone}
}

// end ends a call that has no more to tell than an error and the LSN of its
// record, if it has one. A Close closes the store, whatever came of it.
func (c *call) end(err api.Errno) state {
	if c.kind == api.CallClose {
		c.engine.store.Close()
	}
	return c.done(api.Result{Err: err, LSN: c.record})
}
