package sched_test

import (
	"math/rand"
	"slices"
	"testing"

	"flume/api"
	"flume/sched"
)

// orders holds all orders of picks, up to so many, against a plain run of states: where most is reached just there, and where the tasks go round from there on.
func orders(t *testing.T, tasks [][]api.Act, room, deep int) {
	t.Helper()
	var walk func(p plain, picks []int, trace []api.Turn)
	walk = func(p plain, picks []int, trace []api.Turn) {
		l, err := sched.Ready(tasks, room, picks)
		want := p.ready()
		if err != api.OK || !slices.Equal(l, want) {
			t.Fatalf("P20.3: Ready(%s, %d, %v): %v, %v, wanted %v", toldTasks(tasks), room, picks, l, err, want)
		}
		for _, most := range []int{len(picks), len(picks) + deep + 3} {
			got, err := sched.Run(tasks, room, picks, most)
			if want := p.goOn(trace, most); err != api.OK || !equal(got, want) {
				t.Fatalf("P20.2: Run(%s, %d, %v, %d): %v, %+v, wanted %+v", toldTasks(tasks), room, picks, most, err, got, want)
			}
		}
		if len(picks) == deep {
			return
		}
		for k, who := range want {
			walk(p.next(who), append(slices.Clip(picks), k), append(slices.Clip(trace), api.Turn{Task: who, Act: p.each[who].at}))
		}
	}
	walk(first(tasks, room), nil, nil)
}

// lists gives all lists of at most so many of the phrases, one phrase behind the other.
func lists(most int, phrases ...[]api.Act) [][]api.Act {
	all := [][]api.Act{nil}
	begin := 0
	for range most {
		end := len(all)
		for _, l := range all[begin:end] {
			for _, p := range phrases {
				all = append(all, slices.Concat(l, p))
			}
		}
		begin = end
	}
	return all
}

// each has f look at all sets of so many of these tasks; a task whose guard goes nowhere is left out.
func each(many int, l [][]api.Act, f func(tasks [][]api.Act)) {
	l = slices.DeleteFunc(slices.Clone(l), func(acts []api.Act) bool { return sched.May(tasks(acts)) != api.OK })
	var walk func(set [][]api.Act)
	walk = func(set [][]api.Act) {
		if len(set) == many {
			f(set)
			return
		}
		for _, acts := range l {
			walk(append(slices.Clip(set), acts))
		}
	}
	walk(nil)
}

func TestAllTasksAlone(t *testing.T) {
	t.Parallel()
	l := lists(4, acts(lock(0)), acts(unlock(0)), acts(wait(0, 0)), acts(cast(0)), acts(put(0, 3)), acts(take(0, 0)), acts(add(0, 1)), acts(skip(0, 1)), acts(panics(7)), acts(guard(0)), acts(guard(2)))
	each(1, l, func(tasks [][]api.Act) { holds(t, tasks, 1, nil, 11) })
}

// All pairs of tasks of up to two acts of any Kind.
func TestAllPairs(t *testing.T) {
	t.Parallel()
	l := lists(2, acts(lock(0)), acts(unlock(0)), acts(lock(0), wait(0, 0)), acts(signal(0)), acts(cast(0)), acts(put(0, 1)), acts(put(0, 2)), acts(take(0, 0)), acts(add(0, -1)), acts(move(0, 1)), acts(skip(0, 1)), acts(yield()), acts(panics(4)), acts(guard(1)))
	each(2, l, func(tasks [][]api.Act) { orders(t, tasks, 1, 7) })
}

// All pairs of somewhat longer tasks about one lock.
func TestAllPairsOfLocks(t *testing.T) {
	t.Parallel()
	l := lists(2, acts(lock(0)), acts(unlock(0)), acts(lock(0), wait(0, 0)), acts(lock(0), wait(0, 0), unlock(0)), acts(lock(0), cast(0), unlock(0)), acts(guard(2), unlock(0)))
	each(2, l, func(tasks [][]api.Act) { orders(t, tasks, 1, 7) })
}

// All threes about a condition: who waited longest, and who gets the lock.
func TestAllThreesOfWaits(t *testing.T) {
	t.Parallel()
	l := lists(1, acts(lock(0), wait(0, 0)), acts(lock(0), wait(0, 0), unlock(0)), acts(lock(1), wait(0, 1), unlock(1)), acts(signal(0)), acts(cast(0)), acts(signal(0), signal(0)), acts(lock(0), signal(0), unlock(0)))
	each(3, l, func(tasks [][]api.Act) { orders(t, tasks, 1, 7) })
}

// All threes about a queue: in order, at its room, and empty.
func TestAllThreesOfQueues(t *testing.T) {
	t.Parallel()
	l := lists(1, acts(put(0, 1)), acts(put(0, 2), put(0, 3)), acts(take(0, 0)), acts(take(0, 1), put(1, 4)), acts(take(1, 2)), acts(put(1, 5), take(0, 7)))
	for room := 1; room <= 3; room++ {
		each(3, l, func(tasks [][]api.Act) { orders(t, tasks, room, 6) })
	}
}

// drawnAct is an act of any Kind that may be, in a task of so many.
func drawnAct(r *rand.Rand, many int) api.Act {
	few := func(n int) int { return r.Intn(n) * r.Intn(2) }
	switch r.Intn(16) {
	case 0, 1:
		return lock(few(4))
	case 2, 3:
		return unlock(few(4))
	case 4, 5:
		return wait(few(4), few(4))
	case 6:
		return signal(few(4))
	case 7:
		return cast(few(4))
	case 8, 9:
		return put(few(4), r.Int63()-r.Int63())
	case 10:
		return take(few(4), few(8))
	case 11:
		return add(few(8), r.Int63()-r.Int63())
	case 12:
		return move(r.Intn(8), r.Intn(8))
	case 13:
		return skip(r.Intn(8), int64(r.Intn(5)))
	case 14:
		return []api.Act{panics(r.Int63() - r.Int63()), yield()}[r.Intn(2)]
	}
	return guard(int64(r.Intn(many + 1)))
}

func drawnTasks(r *rand.Rand) [][]api.Act {
	l := make([][]api.Act, r.Intn(17))
	for i := range l {
		many := r.Intn(14)
		for range many {
			l[i] = append(l[i], drawnAct(r, many))
			if a := l[i][len(l[i])-1]; a.Kind == api.ActWait && len(l[i]) < many && r.Intn(4) > 0 {
				l[i][len(l[i])-1] = lock(a.B)
				l[i] = append(l[i], a)
			}
		}
		l[i] = l[i][:many]
	}
	return l
}

func drawnPicks(r *rand.Rand, many int) []int {
	l := make([]int, r.Intn(many+1))
	for i := range l {
		l[i] = r.Intn(40)
		if r.Intn(5) == 0 {
			l[i] = r.Int()
		}
	}
	return l
}

// picksOf is the picks by which a run went, told from its turns and from who was ready.
func picksOf(t *testing.T, tasks [][]api.Act, room int, trace []api.Turn) []int {
	t.Helper()
	var picks []int
	for i, turn := range trace {
		l, err := sched.Ready(tasks, room, picks)
		k := slices.Index(l, turn.Task)
		if err != api.OK || k < 0 {
			t.Fatalf("P20.3: Ready(%s, %d, %v): %v, %v, but turn %d is %v", toldTasks(tasks), room, picks, l, err, i, turn)
		}
		picks = append(picks, k)
	}
	return picks
}

func TestDrawnTasks(t *testing.T) {
	t.Parallel()
	r := rand.New(rand.NewSource(20))
	for range 3000 {
		l, room := drawnTasks(r), 1+r.Intn(16)
		if r.Intn(2) == 0 {
			room = 1 + r.Intn(3)
		}
		picks := drawnPicks(r, 80)
		ran := holds(t, l, room, picks, r.Intn(150))
		holdsLocks(t, l, ran)
	}
}

// A run behind some picks and further ones is the run of both; also where the first ones went round.
func TestARunAndItsParts(t *testing.T) {
	t.Parallel()
	r := rand.New(rand.NewSource(21))
	for range 300 {
		l, room := drawnTasks(r), 1+r.Intn(3)
		some, further := drawnPicks(r, 20), drawnPicks(r, 20)
		both := slices.Concat(some, further)
		whole := holds(t, l, room, both, len(both))
		front := holds(t, l, room, some, len(some))
		same(t, "what follows: the front of a run", whole.Trace[:front.Steps], front.Trace)
		ready, _ := sched.Ready(l, room, some)
		if len(further) > 0 && len(ready) > 0 {
			same(t, "what follows: the next one", whole.Trace[front.Steps].Task, ready[further[0]%len(ready)])
		}
		if len(ready) == 0 {
			same(t, "what follows: further picks", equal(whole, front), true)
		}
		round := holds(t, l, room, some, 60)
		picks := picksOf(t, l, room, round.Trace)
		again := holds(t, l, room, picks, 60)
		same(t, "what follows: the turns as picks", equal(again, round), true)
		if round.Steps < 60 {
			longer := holds(t, l, room, append(picks, drawnPicks(r, 9)...), 60)
			same(t, "what follows: longer picks behind the end", equal(longer, round), true)
			longer = holds(t, l, room, append(picks, drawnPicks(r, 9)...), 65536)
			same(t, "what follows: more steps behind the end", equal(longer, round), true)
		}
	}
}

// holdsLocks goes over a run's turns, and holds that no lock is had by two.
func holdsLocks(t *testing.T, tasks [][]api.Act, ran api.Ran) {
	t.Helper()
	owner := map[int]int{}    // of a lock; not there: nobody
	waiting := map[int]bool{} // whose wait has its second part to come
	takes := func(lock, task int) {
		if who, had := owner[lock]; had {
			t.Fatalf("what follows: lock %d is had by %d and %d: %s, %v", lock, who, task, toldTasks(tasks), ran.Trace)
		}
		owner[lock] = task
	}
	frees := func(lock, task int) bool {
		who, had := owner[lock]
		if !had || who != task {
			return false
		}
		delete(owner, lock)
		return true
	}
	for _, turn := range ran.Trace {
		a := tasks[turn.Task][turn.Act]
		switch {
		case a.Kind == api.ActLock:
			takes(a.A, turn.Task)
		case a.Kind == api.ActUnlock:
			frees(a.A, turn.Task)
		case a.Kind == api.ActWait && waiting[turn.Task]:
			takes(a.B, turn.Task)
			waiting[turn.Task] = false
		case a.Kind == api.ActWait:
			waiting[turn.Task] = frees(a.B, turn.Task)
		}
	}
}

// Without a guard a run ends, with at most two steps an act, whatever the picks are.
func TestARunEnds(t *testing.T) {
	t.Parallel()
	r := rand.New(rand.NewSource(22))
	for range 2000 {
		l := drawnTasks(r)
		many := 0
		for i := range l {
			l[i] = slices.DeleteFunc(l[i], func(a api.Act) bool { return a.Kind == api.ActGuard })
			many += len(l[i])
		}
		ran := holds(t, l, 1+r.Intn(3), drawnPicks(r, 100), 2*many+1)
		if ran.Steps > 2*many {
			t.Fatalf("what follows: %d steps of %d acts", ran.Steps, many)
		}
		for i, e := range ran.Ends {
			if e.How == api.EndReady {
				t.Fatalf("P20.2: it ended with %d ready: %s", i, toldTasks(l))
			}
		}
	}
}

// A wait has two steps, every other act one: as many as a task may have.
func TestALongRun(t *testing.T) {
	waits, casts := acts(lock(3)), acts(cast(2))
	for range 255 {
		waits = append(waits, wait(2, 3))
		casts = append(casts, cast(2))
	}
	l := tasks(waits, casts)
	ran := holds(t, l, 1, make([]int, 1000), 1000) // the one that waits, as long as it is ready
	same(t, "P20.2: Steps", ran.Steps, 1+2*255+256)
	same(t, "P20.2: Ends", ran.Ends, []api.End{{How: api.EndDone}, {How: api.EndDone}})
	holdsLocks(t, l, ran)
}
