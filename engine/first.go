package engine

import (
	"math"

	"flume/api"
	"flume/frame"
)

// first gives what a call does in its first step.
func (c *call) first() func() state {
	switch c.kind {
	case api.CallAppend, api.CallAsync:
		return c.reserve
	case api.CallSync:
		return c.sync
	case api.CallRead:
		return c.read
	case api.CallNext:
		return c.next
	case api.CallTruncate:
		return c.truncate
	}
	return c.close
}

// reserve gives the record of an Append or Async its LSN, and puts it into the
// queue.
func (c *call) reserve() state {
	e := c.engine
	if err := e.refusesRecord(c.data); err != api.OK {
		return c.end(err)
	}
	in, err := e.queue.Put(e.reserved, frame.Size(len(c.data)))
	if err != api.OK { // too many stand in line
		return c.end(err)
	}
	c.record = e.reserved
	e.reserved++
	e.datas[c.record], c.data = c.data, nil
	if in {
		return c.cameIn()
	}
	return state{api.StateLine, c.mayStepUp, c.stepUp}
}

// refusesRecord is why no record can be reserved, whatever the queue holds, or
// OK.
func (e *Engine) refusesRecord(data []byte) api.Errno {
	if err := e.refuses(); err != api.OK {
		return err
	}
	switch {
	case len(data) > api.MaxData || frame.Size(len(data)) > e.params.QueueBytes:
		return api.ErrLong
	case e.reserved == math.MaxInt64:
		return api.ErrEnd
	}
	return api.OK
}

func (c *call) sync() state {
	if err := c.engine.refuses(); err != api.OK {
		return c.end(err)
	}
	return c.awaitAll()
}

// awaitAll is where a call stands that waits for all that is reserved.
func (c *call) awaitAll() state {
	e := c.engine
	if e.durable() == e.reserved {
		return c.end(api.OK)
	}
	return c.await(e.reserved - 1)
}

func (c *call) read() state {
	if c.engine.closing {
		return c.done(api.Result{Err: api.ErrClosed})
	}
	return c.tell()
}

// tell ends a call with the record that it asks for, or with the store's error.
func (c *call) tell() state {
	rec, err := c.engine.store.Read(c.lsn)
	return c.done(api.Result{Err: err, LSN: rec.LSN, Data: rec.Data})
}

func (c *call) next() state {
	e := c.engine
	switch {
	case e.closing:
		return c.done(api.Result{Err: api.ErrClosed})
	case c.lsn < e.durable(): // also one below First: the store tells that
		return c.tell()
	}
	return state{api.StateTail, c.mayFollow, c.follow}
}

// truncate is the step of a Truncate at its start, and at the gate.
func (c *call) truncate() state {
	e := c.engine
	if err := e.refuses(); err != api.OK {
		return c.done(api.Result{Err: err})
	}
	if !e.unled() {
		return state{api.StateGate, e.unled, c.truncate}
	}
	r := api.Result{Err: e.store.TruncateFront(c.lsn)}
	if r.Err == api.ErrFailed {
		if e.store.Look().First == c.lsn { // the front is cut all the same
			r.LSN = c.lsn
		}
		e.must(r.Err, c.done(r))
	}
	return c.done(r)
}

func (c *call) close() state {
	e := c.engine
	if e.closing {
		return c.done(api.Result{Err: api.ErrClosed})
	}
	e.closing = true
	if e.failed() {
		return c.end(api.ErrFailed)
	}
	return c.awaitAll()
}
