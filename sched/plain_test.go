package sched_test

import (
	"fmt"
	"slices"
	"strings"
	"testing"

	"flume/api"
	"flume/sched"
)

func same(t *testing.T, what string, got, want any) {
	t.Helper()
	if g, w := fmt.Sprint(got), fmt.Sprint(want); g != w {
		t.Fatalf("%s: %s, wanted %s", what, g, w)
	}
}

// The acts, by their words.
func lock(a int) api.Act               { return api.Act{Kind: 1, A: a} }
func unlock(a int) api.Act             { return api.Act{Kind: 2, A: a} }
func wait(cond, lock int) api.Act      { return api.Act{Kind: 3, A: cond, B: lock} }
func signal(cond int) api.Act          { return api.Act{Kind: 4, A: cond} }
func cast(cond int) api.Act            { return api.Act{Kind: 5, A: cond} }
func put(q int, n int64) api.Act       { return api.Act{Kind: 6, A: q, N: n} }
func take(q, reg int) api.Act          { return api.Act{Kind: 7, A: q, B: reg} }
func add(reg int, n int64) api.Act     { return api.Act{Kind: 8, A: reg, N: n} }
func move(from, to int) api.Act        { return api.Act{Kind: 9, A: from, B: to} }
func skip(reg int, n int64) api.Act    { return api.Act{Kind: 10, A: reg, N: n} }
func yield() api.Act                   { return api.Act{Kind: 11} }
func panics(n int64) api.Act           { return api.Act{Kind: 12, N: n} }
func guard(n int64) api.Act            { return api.Act{Kind: 13, N: n} }
func acts(l ...api.Act) []api.Act      { return l }
func tasks(l ...[]api.Act) [][]api.Act { return l }

// toldTasks is tasks as they read.
func toldTasks(tasks [][]api.Act) string {
	words := []string{"?", "lock", "unlock", "wait", "signal", "cast", "put", "take", "add", "copy", "skip", "yield", "panic", "guard"}
	var b strings.Builder
	for _, l := range tasks {
		for _, a := range l {
			fmt.Fprintf(&b, "%s %d %d %d, ", words[a.Kind], a.A, a.B, a.N)
		}
		b.WriteString("; ")
	}
	return b.String()
}

func equal(a, b api.Ran) bool {
	return a.Steps == b.Steps && slices.Equal(a.Trace, b.Trace) && slices.Equal(a.Regs, b.Regs) && slices.Equal(a.Ends, b.Ends) && slices.EqualFunc(a.Queues, b.Queues, slices.Equal)
}

// plain is a state of tasks by the chapter's words. A step makes another state of it: none is ever changed.
type plain struct {
	tasks [][]api.Act
	room  int
	steps int
	each  [16]plainTask
	owner [4]int // the task's number and 1; 0: nobody
	queue [4][]int64
	reg   [8]int64
}

type plainTask struct {
	at    int
	since int  // the step by which it began to wait for a condition; 0: it does not
	cond  int  // and for which one
	again bool // it was woken, and takes the lock again
	guard int  // the act at which it goes on, and 1; 0: none
	died  bool
	n     int64
}

func first(tasks [][]api.Act, room int) plain {
	return plain{tasks: tasks, room: room}
}

// why is a task's How in this state.
func (p plain) why(i int) int {
	e, l := p.each[i], p.tasks[i]
	if e.died {
		return 2
	}
	if e.at == len(l) {
		return 1
	}
	if e.since > 0 {
		return 5
	}
	switch a := l[e.at]; a.Kind {
	case 1:
		if p.owner[a.A] > 0 {
			return 4
		}
	case 3:
		if e.again && p.owner[a.B] > 0 {
			return 4
		}
	case 6:
		if len(p.queue[a.A]) == p.room {
			return 6
		}
	case 7:
		if len(p.queue[a.A]) == 0 {
			return 7
		}
	}
	return 3
}

func (p plain) ready() []int {
	var l []int
	for i := range p.tasks {
		if p.why(i) == 3 {
			l = append(l, i)
		}
	}
	return l
}

// longest is who has waited longest for a condition; -1: nobody waits.
func (p plain) longest(cond int) int {
	who := -1
	for i := range p.tasks {
		if e := p.each[i]; e.since > 0 && e.cond == cond && (who < 0 || e.since < p.each[who].since) {
			who = i
		}
	}
	return who
}

func (p plain) woken(i int) plain {
	p.each[i].since, p.each[i].cond, p.each[i].again = 0, 0, true
	return p
}

func (p plain) panicked(i int, n int64) plain {
	e := p.each[i]
	if e.guard > 0 {
		e.at, e.guard = e.guard-1, 0
		p.reg[7] = n
	} else {
		e.died, e.n = true, n
	}
	p.each[i] = e
	return p
}

// next is the state behind a step of a task that is ready.
func (p plain) next(i int) plain {
	p.steps++
	a := p.tasks[i][p.each[i].at]
	end := len(p.tasks[i])
	switch a.Kind {
	case 1:
		p.owner[a.A] = i + 1
	case 2, 3:
		return p.lets(i, a)
	case 4, 5:
		for who := p.longest(a.A); who >= 0; who = p.longest(a.A) {
			p = p.woken(who)
			if a.Kind == 4 {
				break
			}
		}
	case 6:
		p.queue[a.A] = append(slices.Clip(p.queue[a.A]), a.N)
	case 7:
		p.reg[a.B] = p.queue[a.A][0]
		p.queue[a.A] = p.queue[a.A][1:]
	case 8:
		p.reg[a.A] = int64(uint64(p.reg[a.A]) + uint64(a.N))
	case 9:
		p.reg[a.B] = p.reg[a.A]
	case 10:
		if p.reg[a.A] == 0 {
			p.each[i].at = min(p.each[i].at+1+int(a.N), end)
			return p
		}
	case 12:
		return p.panicked(i, a.N)
	case 13:
		p.each[i].guard = int(a.N) + 1
	}
	p.each[i].at++
	return p
}

// lets is the state behind an unlock, or one of the parts of a wait.
func (p plain) lets(i int, a api.Act) plain {
	what := a.A
	if a.Kind == 3 {
		what = a.B
	}
	if p.each[i].again {
		p.each[i].again = false
		p.owner[what] = i + 1
		p.each[i].at++
		return p
	}
	if p.owner[what] != i+1 {
		return p.panicked(i, -1)
	}
	p.owner[what] = 0
	if a.Kind == 3 {
		p.each[i].since, p.each[i].cond = p.steps, a.A
		return p
	}
	p.each[i].at++
	return p
}

// ran is what is told of the state behind those turns.
func (p plain) ran(trace []api.Turn) api.Ran {
	r := api.Ran{Steps: p.steps, Trace: trace, Regs: p.reg[:], Queues: p.queue[:]}
	for i := range p.tasks {
		r.Ends = append(r.Ends, api.End{How: p.why(i), N: p.each[i].n})
	}
	return r
}

// goOn has tasks go round from a state on, up to so many steps, and tells what came of it.
func (p plain) goOn(trace []api.Turn, most int) api.Ran {
	trace = slices.Clone(trace)
	for p.steps < most {
		l := p.ready()
		if len(l) == 0 {
			break
		}
		who := l[0]
		if len(trace) > 0 {
			for i := len(l) - 1; i >= 0; i-- {
				if l[i] > trace[len(trace)-1].Task {
					who = l[i]
				}
			}
		}
		trace = append(trace, api.Turn{Task: who, Act: p.each[who].at})
		p = p.next(who)
	}
	return p.ran(trace)
}

// plainRun is Run of tasks that may be.
func plainRun(tasks [][]api.Act, room int, picks []int, most int) api.Ran {
	p := first(tasks, room)
	var trace []api.Turn
	for _, k := range picks {
		l := p.ready()
		if len(l) == 0 || p.steps == most {
			break
		}
		who := l[k%len(l)]
		trace = append(trace, api.Turn{Task: who, Act: p.each[who].at})
		p = p.next(who)
	}
	return p.goOn(trace, most)
}

// holds holds a run against the plain one.
func holds(t *testing.T, tasks [][]api.Act, room int, picks []int, most int) api.Ran {
	t.Helper()
	got, err := sched.Run(tasks, room, picks, most)
	want := plainRun(tasks, room, picks, most)
	if err != api.OK || !equal(got, want) {
		t.Fatalf("P20.2: Run(%s, %d, %v, %d): %v, %+v, wanted %+v", toldTasks(tasks), room, picks, most, err, got, want)
	}
	if len(got.Regs) != 8 || len(got.Queues) != 4 || len(got.Ends) != len(tasks) || got.Steps != len(got.Trace) {
		t.Fatalf("P20.2: Run(%s): lists of other lengths: %+v", toldTasks(tasks), got)
	}
	return got
}
