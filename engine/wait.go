package engine

import (
	"flume/api"
)

// mayStepUp tells of a call whose record was put in line whether it may go on.
func (c *call) mayStepUp() bool {
	e := c.engine
	return e.failed() || !e.inLine(c.record) || e.unled()
}

func (c *call) stepUp() state {
	e := c.engine
	switch {
	case e.failed():
		return c.end(api.ErrFailed)
	case !e.inLine(c.record):
		return c.cameIn()
	}
	return c.lead()
}

// cameIn is where a call stands whose record the queue holds, or has held.
func (c *call) cameIn() state {
	if c.kind == api.CallAsync {
		return c.end(api.OK)
	}
	return c.await(c.record)
}

// await is where a call stands that waits for a record to last.
func (c *call) await(lsn int64) state {
	c.lsn = lsn
	return state{api.StateWait, c.mayWake, c.wake}
}

func (c *call) mayWake() bool {
	e := c.engine
	return e.durable() > c.lsn || e.failed() || e.unled()
}

func (c *call) wake() state {
	e := c.engine
	switch {
	case e.durable() > c.lsn:
		return c.end(api.OK)
	case e.failed():
		return c.end(api.ErrFailed)
	}
	return c.lead()
}

// mayFollow tells of a Next whose record did not last at its start whether it
// may go on.
func (c *call) mayFollow() bool {
	e := c.engine
	return e.durable() > c.lsn || e.failed() || e.closed() || e.unled() && c.lsn < e.reserved
}

func (c *call) follow() state {
	e := c.engine
	switch {
	case e.closed():
		return c.done(api.Result{Err: api.ErrClosed})
	case c.lsn < e.durable(): // also one below First: the store tells that
		return c.tell()
	case e.failed():
		return c.done(api.Result{Err: api.ErrFailed})
	}
	return c.lead()
}
