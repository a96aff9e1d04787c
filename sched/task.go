package sched

import (
	"flume/api"
)

const (
	notHad        = -1 // what a task panics with that lets a lock go that it has not
	panicRegister = 7  // where the number of a panic that was caught goes
)

// task is how far a task has come.
type task struct {
	acts    []api.Act
	at      int // the act at which it stands; from len(acts) on: it has ended
	sleep   sleep
	guarded bool
	landing int   // the act at which a guarded task goes on when it panics
	died    bool  // by a panic that was not caught
	with    int64 // and its number
}

// sleep is how far a task is with the ActWait at which it stands.
type sleep int

const (
	awake  sleep = iota // neither part is done
	asleep              // it waits for the condition
	woken               // it has the lock to take again
)

// thrown is the number that a task panics with.
type thrown int64

// step has a task do the act at which it stands; it is ready.
func (r *run) step(t *task) {
	defer func() {
		if x := recover(); x != nil {
			r.land(t, x)
		}
	}()
	r.do(t, t.acts[t.at])
}

// land has a task that panicked go on where its guard says, or ends it.
func (r *run) land(t *task, x any) {
	n, ok := x.(thrown)
	if !ok {
		panic(x) // a fault of the program, not of the task: it is not hidden
	}
	if !t.guarded {
		t.died, t.with = true, int64(n)
		return
	}
	t.guarded = false
	t.at = t.landing
	r.registers[panicRegister] = int64(n)
}

func (r *run) do(t *task, a api.Act) {
	switch a.Kind {
	case api.ActLock:
		r.locks[a.A] = t
	case api.ActUnlock:
		r.letGo(t, a.A)
	case api.ActWait:
		if t.sleep == awake {
			r.fallAsleep(t, a)
			return // it stands there still: the second part is to come
		}
		r.locks[a.B] = t
		t.sleep = awake
	case api.ActSignal:
		r.wake(a.A, min(1, len(r.sleepers[a.A])))
	case api.ActCast:
		r.wake(a.A, len(r.sleepers[a.A]))
	case api.ActPut:
		r.queues[a.A] = append(r.queues[a.A], a.N)
	case api.ActTake:
		r.registers[a.B] = r.queues[a.A][0]
		r.queues[a.A] = r.queues[a.A][1:]
	case api.ActAdd:
		r.registers[a.A] += a.N
	case api.ActCopy:
		r.registers[a.B] = r.registers[a.A]
	case api.ActSkip:
		if r.registers[a.A] == 0 {
			t.at += int(a.N)
		}
	case api.ActPanic:
		panic(thrown(a.N))
	case api.ActGuard:
		t.guarded, t.landing = true, int(a.N)
	}
	t.at++
}

func (r *run) letGo(t *task, lock int) {
	if r.locks[lock] != t {
		panic(thrown(notHad))
	}
	r.locks[lock] = nil
}

// fallAsleep is the first part of an ActWait.
func (r *run) fallAsleep(t *task, a api.Act) {
	r.letGo(t, a.B)
	t.sleep = asleep
	r.sleepers[a.A] = append(r.sleepers[a.A], t)
}

// wake wakes the n that have waited longest.
func (r *run) wake(cond, n int) {
	for _, t := range r.sleepers[cond][:n] {
		t.sleep = woken
	}
	r.sleepers[cond] = r.sleepers[cond][n:]
}
