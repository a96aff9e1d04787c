package sched_test

import (
	"fmt"
	"math"
	"slices"
	"testing"

	"flume/api"
)

// went is who went, and how the tasks ended.
func went(t *testing.T, what string, ran api.Ran, trace []api.Turn, want []api.End) {
	t.Helper()
	same(t, "P20.2: "+what+": Trace", ran.Trace, trace)
	same(t, "P20.2: "+what+": Ends", ran.Ends, want)
}

func died(n int64) api.End { return api.End{How: api.EndDied, N: n} }
func is(how int) api.End   { return api.End{How: how} }

func TestLock(t *testing.T) {
	for a := range 4 {
		went(t, "a lock", run(t, tasks(acts(lock(a)))), turns(0, 0), ends(api.EndDone))
		went(t, "twice", run(t, tasks(acts(lock(a), lock(a)))), turns(0, 0), ends(api.EndLock))
		went(t, "another's", run(t, tasks(acts(lock(a)), acts(lock(a)))), turns(0, 0), ends(api.EndDone, api.EndLock))
		went(t, "let go", run(t, tasks(acts(lock(a), yield(), unlock(a)), acts(lock(a)))), turns(0, 0, 0, 1, 0, 2, 1, 0), ends(api.EndDone, api.EndDone))
		went(t, "again", run(t, tasks(acts(lock(a), unlock(a), lock(a)))), turns(0, 0, 0, 1, 0, 2), ends(api.EndDone))
		others := slices.DeleteFunc([]int{0, 1, 2, 3}, func(b int) bool { return b == a })
		went(t, "others", run(t, tasks(acts(lock(a)), acts(lock(others[0]), lock(others[1]), lock(others[2])))), turns(0, 0, 1, 0, 1, 1, 1, 2), ends(api.EndDone, api.EndDone))
	}
	// Two that wait for each other.
	l := tasks(acts(lock(0), lock(1)), acts(lock(1), lock(0)))
	went(t, "each other's", run(t, l), turns(0, 0, 1, 0), ends(api.EndLock, api.EndLock))
	went(t, "one behind the other", run(t, l, 0, 0), turns(0, 0, 0, 1), ends(api.EndDone, api.EndLock))
}

func TestUnlock(t *testing.T) {
	for a := range 4 {
		went(t, "nobody's", run(t, tasks(acts(unlock(a), yield()))), turns(0, 0), []api.End{died(-1)})
		went(t, "twice", run(t, tasks(acts(lock(a), unlock(a), unlock(a)))), turns(0, 0, 0, 1, 0, 2), []api.End{died(-1)})
		// Who lets go what another has panics, and the other has it on.
		ran := run(t, tasks(acts(lock(a), yield(), unlock(a)), acts(unlock(a)), acts(lock(a))))
		went(t, "another's", ran, turns(0, 0, 1, 0, 0, 1, 0, 2, 2, 0), []api.End{is(1), died(-1), is(1)})
		ran = run(t, tasks(acts(lock(a), unlock((a+1)%4))))
		went(t, "of another lock", ran, turns(0, 0, 0, 1), []api.End{died(-1)})
	}
}

func TestWait(t *testing.T) {
	for c := range 4 {
		for b := range 4 {
			waits := acts(lock(b), wait(c, b), unlock(b))
			went(t, "for good", run(t, tasks(waits)), turns(0, 0, 0, 1), ends(api.EndCond))
			went(t, "without the lock", run(t, tasks(acts(wait(c, b), yield()))), turns(0, 0), []api.End{died(-1)})
			went(t, "with another lock", run(t, tasks(acts(lock((b+1)%4), wait(c, b)))), turns(0, 0, 0, 1), []api.End{died(-1)})
			went(t, "with another's", run(t, tasks(acts(lock(b)), acts(wait(c, b)))), turns(0, 0, 1, 0), []api.End{is(1), died(-1)})
			for _, wakes := range []api.Act{signal(c), cast(c)} {
				// Two steps at one act: one behind the other, as soon as it was woken.
				ran := run(t, tasks(waits, acts(wakes)), 0, 0, 0)
				went(t, "woken", ran, turns(0, 0, 0, 1, 1, 0, 0, 1, 0, 2), ends(1, 1))
				// The lock is free while it waits, and somebody has it when it is woken.
				ran = run(t, tasks(waits, acts(lock(b), wakes, yield(), unlock(b))), 0, 0)
				went(t, "woken, the lock is had", ran, turns(0, 0, 0, 1, 1, 0, 1, 1, 1, 2, 1, 3, 0, 1, 0, 2), ends(1, 1))
				ran = run(t, tasks(waits, acts(lock(b), wakes)), 0, 0)
				went(t, "woken, the lock is had for good", ran, turns(0, 0, 0, 1, 1, 0, 1, 1), ends(api.EndLock, 1))
				// Another condition's.
				ran = run(t, tasks(waits, acts(signal((c+1)%4), cast((c+3)%4))), 0, 0)
				went(t, "another condition", ran, turns(0, 0, 0, 1, 1, 0, 1, 1), ends(api.EndCond, 1))
			}
		}
	}
}

// Somebody else took the lock meanwhile, and a second wake finds nobody who waits for the condition.
func TestWokenAndNotYetBack(t *testing.T) {
	waits := acts(lock(0), wait(0, 0), unlock(0))
	ran := run(t, tasks(waits, acts(signal(0), lock(0), signal(0), cast(0), unlock(0))), 0, 0, 0, 1)
	went(t, "woken once", ran, turns(0, 0, 0, 1, 1, 0, 1, 1, 1, 2, 1, 3, 1, 4, 0, 1, 0, 2), ends(1, 1))
	// It waits twice: the second time it is woken anew.
	twice := acts(lock(0), wait(0, 0), wait(0, 0), unlock(0))
	ran = run(t, tasks(twice, acts(signal(0))), 0, 0)
	went(t, "twice", ran, turns(0, 0, 0, 1, 1, 0, 0, 1, 0, 2), ends(api.EndCond, 1))
	ran = run(t, tasks(twice, acts(signal(0), signal(0))), 0, 0, 0, 1)
	went(t, "a wake too soon", ran, turns(0, 0, 0, 1, 1, 0, 1, 1, 0, 1, 0, 2), ends(api.EndCond, 1))
	ran = run(t, tasks(twice, acts(signal(0), signal(0))), 0, 0, 0, 0, 0)
	went(t, "woken twice", ran, turns(0, 0, 0, 1, 1, 0, 0, 1, 0, 2, 1, 1, 0, 2, 0, 3), ends(1, 1))
}

func TestSignal(t *testing.T) {
	went(t, "nobody waits", run(t, tasks(acts(signal(0), signal(3)))), turns(0, 0, 0, 1), ends(1))
	// A signal that came too soon is lost.
	waits := acts(lock(0), wait(1, 0), unlock(0))
	went(t, "too soon", run(t, tasks(acts(signal(1)), waits)), turns(0, 0, 1, 0, 1, 1), ends(1, api.EndCond))
	// 2, 0, 1 wait, in that order: who has waited longest is woken, not who has the least number.
	l := func(wakes ...api.Act) [][]api.Act { return tasks(waits, waits, waits, wakes) }
	order := []int{2, 2, 0, 0, 0, 0} // 3 alone is ready then
	ran := run(t, l(signal(1)), order...)
	went(t, "the first", ran, turns(2, 0, 2, 1, 0, 0, 0, 1, 1, 0, 1, 1, 3, 0, 2, 1, 2, 2), ends(5, 5, 1, 1))
	ran = run(t, l(signal(1), signal(1)), order...)
	same(t, "P20.2: the first two", ran.Ends, ends(1, 5, 1, 1))
	ran = run(t, l(signal(1), signal(1), signal(1), signal(1)), order...)
	same(t, "P20.2: all three", ran.Ends, ends(1, 1, 1, 1))
}

func TestCast(t *testing.T) {
	went(t, "nobody waits", run(t, tasks(acts(cast(0), cast(3)))), turns(0, 0, 0, 1), ends(1))
	waits := acts(lock(0), wait(1, 0), unlock(0))
	went(t, "too soon", run(t, tasks(acts(cast(1)), waits)), turns(0, 0, 1, 0, 1, 1), ends(1, api.EndCond))
	l := tasks(waits, waits, waits, acts(cast(1)))
	ran := run(t, l, 2, 2, 0, 0, 0, 0, 0, 1)
	went(t, "all", ran, turns(2, 0, 2, 1, 0, 0, 0, 1, 1, 0, 1, 1, 3, 0, 1, 1, 1, 2, 2, 1, 2, 2, 0, 1, 0, 2), ends(1, 1, 1, 1))
	// Those that wait for another condition sleep on.
	ran = run(t, tasks(waits, acts(lock(0), wait(2, 0)), acts(cast(1))), 0, 0, 0, 0)
	same(t, "P20.2: of one condition", ran.Ends, ends(1, 5, 1))
	// One that keeps the lock keeps the others out.
	keeps := acts(lock(0), wait(1, 0))
	ran = run(t, tasks(keeps, keeps, keeps, acts(cast(1))), 0, 0, 0, 0, 0, 0, 0, 1)
	same(t, "P20.2: one of them", ran.Ends, ends(4, 1, 4, 1))
}

func TestQueues(t *testing.T) {
	for q := range 4 {
		ran := run(t, tasks(acts(put(q, 5), put(q, -6), put(q, 7))))
		went(t, "full", ran, turns(0, 0, 0, 1), ends(api.EndPut))
		same(t, "P20.2: Queues", ran.Queues[q], "[5 -6]")
		went(t, "empty", run(t, tasks(acts(take(q, 0)))), nil, ends(api.EndTake))
		went(t, "another one", run(t, tasks(acts(put((q+1)%4, 1), take(q, 0)))), turns(0, 0), ends(api.EndTake))
		// Who waits for room goes on when there is some; who waits for a number when there is one.
		ran = run(t, tasks(acts(put(q, 1), put(q, 2), put(q, 3)), acts(take(q, 5))), 0, 0)
		went(t, "room again", ran, turns(0, 0, 0, 1, 1, 0, 0, 2), ends(1, 1))
		same(t, "P20.2: Queues and Regs", fmt.Sprint(ran.Queues[q], ran.Regs), "[2 3] [0 0 0 0 0 1 0 0]")
		ran = run(t, tasks(acts(take(q, 1), take(q, 2)), acts(put(q, 8), put(q, 9))))
		went(t, "a number", ran, turns(1, 0, 0, 0, 1, 1, 0, 1), ends(1, 1))
		same(t, "P20.2: Regs", fmt.Sprint(len(ran.Queues[q]), ran.Regs), "0 [0 8 9 0 0 0 0 0]")
	}
	for reg := range 8 {
		ran := run(t, tasks(acts(put(2, math.MinInt64), add(reg, 4), take(2, reg))))
		var want [8]int64
		want[reg] = math.MinInt64
		same(t, "P20.2: a register that is written over", ran.Regs, want)
	}
}

// As they were put, so they are taken, however many went through.
func TestAQueueInOrder(t *testing.T) {
	var puts, takes []api.Act
	for n := range int64(256) {
		puts = append(puts, put(0, n*n))
		takes = append(takes, take(0, int(n%8)))
	}
	for room := 1; room <= 16; room++ {
		ran := holds(t, tasks(puts, takes), room, nil, 600)
		same(t, "P20.2: Regs", ran.Regs, "[61504 62001 62500 63001 63504 64009 64516 65025]")
		same(t, "P20.2: Ends", ran.Ends, ends(1, 1))
		ran = holds(t, tasks(puts, takes[:250]), room, nil, 600)
		same(t, "P20.2: Steps", fmt.Sprint(ran.Steps, len(ran.Queues[0])), fmt.Sprint(250+min(256, 250+room), min(6, room)))
	}
}

func TestAdd(t *testing.T) {
	for reg := range 8 {
		for _, k := range []struct{ x, y, want int64 }{
			{0, 0, 0}, {1, 2, 3}, {5, -7, -2}, {math.MaxInt64, 1, math.MinInt64}, {math.MinInt64, -1, math.MaxInt64},
			{math.MinInt64, math.MinInt64, 0}, {math.MaxInt64, math.MaxInt64, -2}, {math.MaxInt64, math.MinInt64, -1},
		} {
			ran := run(t, tasks(acts(add(reg, k.x)), acts(add(reg, k.y))))
			var want [8]int64
			want[reg] = k.want
			same(t, fmt.Sprintf("P20.2: %d and %d", k.x, k.y), ran.Regs, want)
		}
	}
}

func TestCopy(t *testing.T) {
	for from := range 8 {
		for to := range 8 {
			ran := run(t, tasks(acts(add(from, 7), move(from, to))))
			var want [8]int64
			want[from], want[to] = 7, 7
			same(t, "P20.2: copied", ran.Regs, want) // onto itself too
			ran = run(t, tasks(acts(add(to, 7), move(from, to))))
			want = [8]int64{}
			if from == to {
				want[to] = 7
			}
			same(t, "P20.2: a 0 copied", ran.Regs, want)
		}
	}
}

func TestSkip(t *testing.T) {
	for reg := range 8 {
		l := func(n int64) []api.Act { return acts(skip(reg, n), yield(), yield(), yield()) }
		for n, want := range [][]api.Turn{turns(0, 0, 0, 1, 0, 2, 0, 3), turns(0, 0, 0, 2, 0, 3), turns(0, 0, 0, 3), turns(0, 0), turns(0, 0), turns(0, 0)} {
			went(t, fmt.Sprint("skip ", n), run(t, tasks(l(int64(n)))), want, ends(1)) // 3: to just the end
		}
		went(t, "skip 255", run(t, tasks(l(255))), turns(0, 0), ends(1))
		for _, x := range []int64{1, -1, math.MinInt64, math.MaxInt64, 1 << 32} {
			went(t, "not 0", run(t, tasks(append(acts(add(reg, x)), l(2)...))), turns(0, 0, 0, 1, 0, 2, 0, 3, 0, 4), ends(1))
		}
		other := acts(add((reg+1)%8, 1))
		went(t, "of another register", run(t, tasks(append(other, l(2)...))), turns(0, 0, 0, 1, 0, 4), ends(1))
	}
	went(t, "the last act", run(t, tasks(acts(skip(0, 0)))), turns(0, 0), ends(1))
	whole := append(acts(skip(0, 254)), some(255)...)
	went(t, "as far as may be", run(t, tasks(whole)), turns(0, 0, 0, 255), ends(1))
	whole[0] = skip(0, 255)
	went(t, "further", run(t, tasks(whole)), turns(0, 0), ends(1))
	// What it skips is not done.
	went(t, "past a guard", run(t, tasks(acts(skip(1, 1), guard(0), panics(3)))), turns(0, 0, 0, 2), []api.End{died(3)})
}

func TestYield(t *testing.T) {
	ran := run(t, tasks(some(3)))
	went(t, "yield", ran, turns(0, 0, 0, 1, 0, 2), ends(1))
	same(t, "P20.2: Regs", fmt.Sprint(ran.Regs, len(slices.Concat(ran.Queues...))), "[0 0 0 0 0 0 0 0] 0")
}

func TestPanic(t *testing.T) {
	for _, n := range []int64{0, 1, -1, 9, math.MinInt64, math.MaxInt64} {
		ran := run(t, tasks(acts(add(7, 3), panics(n), yield()), acts(yield())))
		went(t, "uncaught", ran, turns(0, 0, 1, 0, 0, 1), []api.End{died(n), is(1)})
		same(t, "P20.2: register 7 as it was", ran.Regs[7], 3)
		// What it has locked stays locked.
		ran = run(t, tasks(acts(lock(1), lock(2), unlock(1), panics(n)), acts(lock(1), lock(2))), 0, 0, 0, 0)
		went(t, "with a lock", ran, turns(0, 0, 0, 1, 0, 2, 0, 3, 1, 0), []api.End{died(n), is(api.EndLock)})
		ran = run(t, tasks(acts(guard(3), panics(n), add(0, 1), add(1, 1))))
		went(t, "caught", ran, turns(0, 0, 0, 1, 0, 3), ends(1))
		same(t, "P20.2: the number in register 7", ran.Regs, fmt.Sprintf("[0 1 0 0 0 0 0 %d]", n))
		ran = run(t, tasks(acts(guard(2), panics(n))))
		went(t, "caught behind the last act", ran, turns(0, 0, 0, 1), ends(1))
		same(t, "P20.2: register 7", ran.Regs[7], n)
	}
}

func TestGuard(t *testing.T) {
	// Once: the second one ends it, and register 7 has the first one's number.
	ran := run(t, tasks(acts(guard(1), panics(6))))
	went(t, "one guard, two panics", ran, turns(0, 0, 0, 1, 0, 1), []api.End{died(6)})
	ran = run(t, tasks(acts(guard(2), panics(6), panics(8))))
	went(t, "one guard, two panics", ran, turns(0, 0, 0, 1, 0, 2), []api.End{died(8)})
	same(t, "P20.2: register 7", ran.Regs[7], 6)
	// Guarded anew: behind a panic, and ahead of one (the last one counts).
	ran = run(t, tasks(acts(guard(2), panics(6), guard(4), panics(8), yield())))
	went(t, "guarded anew", ran, turns(0, 0, 0, 1, 0, 2, 0, 3, 0, 4), ends(1))
	same(t, "P20.2: register 7", ran.Regs[7], 8)
	ran = run(t, tasks(acts(guard(0), guard(3), panics(6), panics(7))))
	went(t, "two guards", ran, turns(0, 0, 0, 1, 0, 2, 0, 3), []api.End{died(7)})
	// A guard is its own task's.
	ran = run(t, tasks(acts(guard(0), yield()), acts(yield(), panics(5))))
	same(t, "P20.2: another's guard", ran.Ends, []api.End{is(1), died(5)})
	went(t, "never needed", run(t, tasks(acts(guard(0)))), turns(0, 0), ends(1))
	// Back to an act ahead of it: it is done anew.
	ran = holds(t, tasks(acts(add(0, 1), skip(7, 1), yield(), guard(0), panics(2))), 1, nil, 12)
	went(t, "back", ran, turns(0, 0, 0, 1, 0, 3, 0, 4, 0, 0, 0, 1, 0, 2, 0, 3, 0, 4, 0, 0, 0, 1, 0, 2), ends(api.EndReady))
}

// What an unlock and a wait panic with is caught too, with the lock as it was.
func TestGuardedLocks(t *testing.T) {
	ran := run(t, tasks(acts(guard(2), unlock(0), lock(0))))
	went(t, "an unlock", ran, turns(0, 0, 0, 1, 0, 2), ends(1))
	same(t, "P20.2: register 7", ran.Regs[7], -1)
	ran = run(t, tasks(acts(guard(2), wait(0, 0), lock(0)), acts(cast(0))))
	went(t, "a wait", ran, turns(0, 0, 1, 0, 0, 1, 0, 2), ends(1, 1))
	same(t, "P20.2: register 7", ran.Regs[7], -1)
	ran = run(t, tasks(acts(lock(0)), acts(guard(2), unlock(0), lock(0))))
	went(t, "another's", ran, turns(0, 0, 1, 0, 1, 1), ends(1, api.EndLock))
	// A panic that is caught leaves the locks that it has.
	ran = run(t, tasks(acts(lock(0), guard(3), panics(4), unlock(0))))
	went(t, "its own, behind a panic", ran, turns(0, 0, 0, 1, 0, 2, 0, 3), ends(1))
	ran = run(t, tasks(acts(lock(0), guard(3), panics(4), lock(0))))
	went(t, "its own, taken twice", ran, turns(0, 0, 0, 1, 0, 2), ends(api.EndLock))
	// A guard that was set ahead of a wait holds behind it.
	ran = run(t, tasks(acts(lock(0), guard(4), wait(0, 0), panics(4), unlock(0)), acts(signal(0))), 0, 0, 0)
	went(t, "behind a wait", ran, turns(0, 0, 0, 1, 0, 2, 1, 0, 0, 2, 0, 3, 0, 4), ends(1, 1))
}
