package engine

import (
	"flume/api"
	"flume/real"
)

// leader is the call that leads, and its batch.
type leader struct {
	call  *call
	back  state    // where the call stood, and goes back to
	begun float64  // when the batch was begun
	batch [][]byte // the records' data, once they are taken
}

// lead makes a call the leader: that is all of its step.
func (c *call) lead() state {
	e := c.engine
	l := &leader{call: c, back: c.state, begun: e.clock.Now()}
	e.leader = l
	return state{api.StateGather, l.mayGather, l.gather}
}

func (l *leader) mayGather() bool {
	return l.plan(l.call.engine.clock.Now()).Go
}

// plan says whether the batch, with what is held now, goes at that time.
func (l *leader) plan(at float64) api.Plan {
	e := l.call.engine
	q := e.queue.Look()
	return e.pace.Plan(q.Held, q.Bytes, at-l.begun)
}

// gather takes the batch out of the queue.
func (l *leader) gather() state {
	e := l.call.engine
	items, _ := e.queue.Take(e.params.Pace.Most, e.params.Pace.Bytes)
	for _, x := range items {
		l.batch = append(l.batch, e.datas[x.ID])
		delete(e.datas, x.ID)
	}
	return state{api.StateWrite, always, l.write}
}

func (l *leader) write() state {
	e := l.call.engine
	_, err := e.store.Append(l.batch...)
	e.must(err, l.back)
	return state{api.StateFlush, always, l.flush}
}

// flush has the batch last, and gives up the lead.
func (l *leader) flush() state {
	e := l.call.engine
	e.must(e.store.Sync(), l.back)
	e.pace.Seen(len(l.batch))
	e.batches++
	e.leader = nil
	return l.back
}

// Tick has the time go on, if the leader waits for it, just to where its batch
// goes.
func (e *Engine) Tick() bool {
	if !e.made() || e.unled() || e.leader.call.state.ready() {
		return false
	}
	l := e.leader
	now := e.clock.Now()
	at := now + l.plan(now).Wait
	for !l.plan(at).Go { // the sum may have been rounded below what it should be
		at = real.Next(at)
	}
	e.clock.Go(at)
	return true
}
