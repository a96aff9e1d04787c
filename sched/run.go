package sched

import (
	"slices"

	"flume/api"
)

// run is what tasks share, how far each of them has come, and who went when.
type run struct {
	tasks     []task
	room      int
	locks     [lockCount]*task   // who has it; nil: nobody
	sleepers  [condCount][]*task // who waits for it, the one that has waited longest first
	queues    [queueCount][]int64
	registers [registerCount]int64
	trace     []api.Turn
}

func begin(tasks [][]api.Act, room int) *run {
	r := &run{tasks: make([]task, len(tasks)), room: room}
	for i, acts := range tasks {
		r.tasks[i].acts = acts
	}
	return r
}

// play has tasks make steps until none is ready, or there are most of them.
func (r *run) play(picks []int, most int) {
	for len(r.trace) < most {
		ready := r.ready()
		if len(ready) == 0 {
			return
		}
		n := r.choose(ready, picks)
		t := &r.tasks[n]
		r.trace = append(r.trace, api.Turn{Task: n, Act: t.at})
		r.step(t)
	}
}

// ready is who is ready, by number.
func (r *run) ready() []int {
	var l []int
	for i := range r.tasks {
		if r.how(&r.tasks[i]) == api.EndReady {
			l = append(l, i)
		}
	}
	return l
}

// choose is who of those that are ready makes the next step.
func (r *run) choose(ready, picks []int) int {
	made := len(r.trace)
	if made < len(picks) {
		return ready[picks[made]%len(ready)]
	}
	last := -1 // nobody went: all are above
	if made > 0 {
		last = r.trace[made-1].Task
	}
	above := slices.IndexFunc(ready, func(n int) bool { return n > last })
	return ready[max(above, 0)]
}

// how is how a task ended, or that it is ready, or what it waits for.
func (r *run) how(t *task) int {
	switch {
	case t.died:
		return api.EndDied
	case t.at >= len(t.acts):
		return api.EndDone
	case t.sleep == asleep:
		return api.EndCond
	}
	a := t.acts[t.at]
	switch {
	case a.Kind == api.ActLock && r.locks[a.A] != nil:
		return api.EndLock
	case a.Kind == api.ActWait && t.sleep == woken && r.locks[a.B] != nil:
		return api.EndLock
	case a.Kind == api.ActPut && len(r.queues[a.A]) >= r.room:
		return api.EndPut
	case a.Kind == api.ActTake && len(r.queues[a.A]) == 0:
		return api.EndTake
	}
	return api.EndReady
}

// told is what is answered of a run that is over: lists that nothing else has.
func (r *run) told() api.Ran {
	ran := api.Ran{Steps: len(r.trace), Trace: r.trace, Regs: slices.Clone(r.registers[:])}
	for i := range r.tasks {
		t := &r.tasks[i]
		ran.Ends = append(ran.Ends, api.End{How: r.how(t), N: t.with})
	}
	for _, q := range r.queues {
		ran.Queues = append(ran.Queues, slices.Clone(q))
	}
	return ran
}
