package sched_test

import (
	"fmt"
	"math"
	"slices"
	"testing"

	"flume/api"
	"flume/sched"
)

// turns is a trace: of each step its task and its act.
func turns(l ...int) []api.Turn {
	var out []api.Turn
	for i := 0; i < len(l); i += 2 {
		out = append(out, api.Turn{Task: l[i], Act: l[i+1]})
	}
	return out
}

// ends are how tasks ended, none of them by a panic.
func ends(how ...int) []api.End {
	var out []api.End
	for _, h := range how {
		out = append(out, api.End{How: h})
	}
	return out
}

// run is a run of tasks that may be, with room for 2 and up to 100 steps, held against the plain one too.
func run(t *testing.T, l [][]api.Act, picks ...int) api.Ran {
	t.Helper()
	return holds(t, l, 2, picks, 100)
}

func TestExamples(t *testing.T) {
	ran := run(t, tasks(acts(lock(0), yield(), unlock(0)), acts(lock(0), add(0, 5), unlock(0))), 0, 1)
	same(t, "P20.2: Trace", ran.Trace, turns(0, 0, 0, 1, 0, 2, 1, 0, 1, 1, 1, 2))
	same(t, "P20.2: Regs", ran.Regs, "[5 0 0 0 0 0 0 0]")
	same(t, "P20.2: Ends", ran.Ends, ends(api.EndDone, api.EndDone))
	ran = run(t, tasks(acts(wait(0, 0))))
	same(t, "P20.2: Ends", ran.Ends, []api.End{{How: api.EndDied, N: -1}})
	same(t, "P20.2: Trace", ran.Trace, turns(0, 0))
	ran = run(t, tasks(acts(guard(2), panics(9), add(0, 1))))
	same(t, "P20.2: Trace", ran.Trace, turns(0, 0, 0, 1, 0, 2))
	same(t, "P20.2: Regs", ran.Regs, "[1 0 0 0 0 0 0 9]")
	same(t, "P20.2: Ends", ran.Ends, ends(api.EndDone))
	ran = run(t, tasks(acts(take(0, 0)), nil))
	same(t, "P20.2: Ends", ran.Ends, ends(api.EndTake, api.EndDone))
	same(t, "P20.2: Steps", ran.Steps, 0)
}

func TestRunOfNone(t *testing.T) {
	for _, l := range [][][]api.Act{nil, {}, {nil}, {{}, nil, {}}} {
		for _, picks := range [][]int{nil, {}, {0}, {5, 0, math.MaxInt}} {
			for _, most := range []int{0, 1, 65536} {
				ran := holds(t, l, 1, picks, most)
				same(t, "P20.2: of none", fmt.Sprint(ran.Steps, ran.Trace, ran.Regs, len(ran.Queues)), "0 [] [0 0 0 0 0 0 0 0] 4")
				same(t, "P20.2: Ends", ran.Ends, slices.Repeat(ends(api.EndDone), len(l)))
				ready, err := sched.Ready(l, 1, picks)
				same(t, "P20.3: of none", fmt.Sprint(len(ready), err), "0 0")
			}
		}
	}
}

// args are the arguments beside the tasks.
type args struct {
	room  int
	picks []int
	most  int
}

// refused holds that there is no run with these, whatever the tasks.
func refused(t *testing.T, a args, want api.Errno, l [][]api.Act) {
	t.Helper()
	what := fmt.Sprintf("P20.2: room %d, %d picks, most %d", a.room, len(a.picks), a.most)
	ran, err := sched.Run(l, a.room, a.picks, a.most)
	same(t, what, err, want)
	noRan(t, what, ran)
}

func TestRunRefuses(t *testing.T) {
	long := make([]int, 65537)
	last := append(make([]int, 65535), -1)
	for _, l := range [][][]api.Act{nil, tasks(acts(yield()), nil)} {
		for _, room := range []int{0, -1, 17, 18, 1 << 32, 1<<32 + 1, math.MaxInt, math.MinInt} {
			refused(t, args{room, nil, 1}, api.ErrArg, l)
			ready, err := sched.Ready(l, room, nil)
			same(t, fmt.Sprintf("P20.3: room %d", room), fmt.Sprint(len(ready), err), "0 1")
		}
		for _, most := range []int{-1, -65536, 65537, 65538, 1 << 32, 1<<32 + 1, math.MaxInt, math.MinInt} {
			refused(t, args{1, nil, most}, api.ErrArg, l)
		}
		for _, picks := range [][]int{{-1}, {0, 0, -1}, {-1, 0}, {0, math.MinInt, 0}, {-1 << 32}, last, long, append(long, 0)} {
			for _, most := range []int{0, 1, 65536} {
				refused(t, args{1, picks, most}, api.ErrArg, l) // also where the steps end ahead of it
			}
			ready, err := sched.Ready(l, 1, picks)
			same(t, "P20.3: picks", fmt.Sprint(len(ready), err), "0 1")
		}
		refused(t, args{0, []int{-1}, -1}, api.ErrArg, l)
	}
}

// What May says of the tasks stands ahead of all.
func TestMayIsToldAhead(t *testing.T) {
	bad := []args{{0, nil, 1}, {17, nil, 1}, {1, nil, -1}, {1, nil, 65537}, {1, []int{-1}, 1}, {1, make([]int, 65537), 1}, {1, nil, 1}}
	for _, a := range bad {
		refused(t, a, api.ErrMany, make([][]api.Act, 17))
		refused(t, a, api.ErrMany, tasks(some(257)))
		refused(t, a, api.ErrKind, tasks(acts(api.Act{})))
		refused(t, a, api.ErrArg, tasks(acts(lock(-1))))
		for want, l := range map[api.Errno][][]api.Act{api.ErrMany: tasks(some(257)), api.ErrKind: tasks(acts(api.Act{})), api.ErrArg: tasks(acts(lock(-1)))} {
			ready, err := sched.Ready(l, a.room, a.picks)
			same(t, "P20.3: May's errors", fmt.Sprint(len(ready), err), fmt.Sprint(0, want))
		}
	}
}

func TestRoom(t *testing.T) {
	var puts []api.Act
	var want []int64
	for n := range int64(20) {
		puts = append(puts, put(3, 100-n))
		want = append(want, 100-n)
	}
	for room := 1; room <= 16; room++ {
		ran := holds(t, tasks(puts), room, nil, 100)
		same(t, "P20.2: a queue at its room", ran.Queues[3], want[:room])
		same(t, "P20.2: Ends", ran.Ends, ends(api.EndPut))
		same(t, "P20.2: Steps", ran.Steps, room)
		ready, err := sched.Ready(tasks(puts), room, make([]int, room-1))
		same(t, "P20.3: one place is left", fmt.Sprint(ready, err), "[0] 0")
		ready, err = sched.Ready(tasks(puts), room, make([]int, room))
		same(t, "P20.3: none is left", fmt.Sprint(len(ready), err), "0 0")
	}
}

// Round and round: a guard that goes back to itself.
func TestMost(t *testing.T) {
	l := tasks(acts(guard(0), panics(1)))
	for _, most := range []int{0, 1, 2, 3, 7, 1000, 65535, 65536} {
		ran := holds(t, l, 1, nil, most)
		same(t, "P20.2: Steps", ran.Steps, most)
		same(t, "P20.2: Ends", ran.Ends, ends(api.EndReady))
		for i, turn := range ran.Trace {
			if turn != (api.Turn{Act: i % 2}) {
				t.Fatalf("P20.2: step %d is %v", i, turn)
			}
		}
	}
	ran := holds(t, tasks(acts(yield())), 1, []int{0, 0, 0}, 0)
	same(t, "P20.2: no step", fmt.Sprint(ran.Steps, ran.Ends), fmt.Sprint(0, ends(api.EndReady)))
	ran = holds(t, tasks(acts(yield())), 1, nil, 1)
	same(t, "P20.2: just as many as there are", fmt.Sprint(ran.Steps, ran.Ends), fmt.Sprint(1, ends(api.EndDone)))
}

func TestManyPicks(t *testing.T) {
	l := tasks(acts(guard(0), panics(1)), acts(guard(0), panics(2)))
	picks := make([]int, 65536)
	for i := range picks {
		picks[i] = (i*i + i/7) % 5
	}
	ran := holds(t, l, 1, picks, 65536)
	for i, turn := range ran.Trace {
		if turn.Task != picks[i]%2 {
			t.Fatalf("P20.2: step %d is %v, the pick is %d", i, turn, picks[i])
		}
	}
	same(t, "P20.2: Steps", ran.Steps, 65536)
	ready, err := sched.Ready(l, 1, picks)
	same(t, "P20.3: behind all of them", fmt.Sprint(ready, err), "[0 1] 0")
	ran = holds(t, tasks(acts(yield())), 1, picks, 5)
	same(t, "P20.2: Steps", ran.Steps, 1)
}

func TestPicks(t *testing.T) {
	three := tasks(some(3), some(3), some(3))
	for _, k := range []struct {
		picks []int
		who   []int
	}{
		{nil, []int{0, 1, 2, 0, 1, 2, 0, 1, 2}},
		{[]int{1}, []int{1, 2, 0, 1, 2, 0, 1, 2, 0}},
		{[]int{2}, []int{2, 0, 1, 2, 0, 1, 2, 0, 1}}, // nobody is above the one that went last
		{[]int{3}, []int{0, 1, 2, 0, 1, 2, 0, 1, 2}},
		{[]int{5, 4}, []int{2, 1, 2, 0, 1, 2, 0, 1, 0}},
		{[]int{math.MaxInt}, []int{1, 2, 0, 1, 2, 0, 1, 2, 0}}, // 2^63 - 1 is 1 above three times a number
		{[]int{1, 1, 1, 1}, []int{1, 1, 1, 2, 0, 2, 0, 2, 0}},  // the fourth one: of 0 and 2, who are ready still
		{[]int{2, 2, 2, 3}, []int{2, 2, 2, 1, 0, 1, 0, 1, 0}},
		{[]int{0, 0, 0, 0, 0, 0, 0, 0, 0, 7, 8, 9}, []int{0, 0, 0, 1, 1, 1, 2, 2, 2}}, // more than there are steps
	} {
		ran := run(t, three, k.picks...)
		var who []int
		for _, turn := range ran.Trace {
			who = append(who, turn.Task)
		}
		same(t, fmt.Sprintf("P20.2: picks %v", k.picks), who, k.who)
	}
	// Who is not ready is not counted: of 1 and 3, by number.
	l := tasks(acts(take(0, 0)), some(2), nil, some(2), acts(panics(1)))
	ran := run(t, l, 2, 1, 0, 3)
	same(t, "P20.2: Trace", ran.Trace, turns(4, 0, 3, 0, 1, 0, 3, 1, 1, 1))
	same(t, "P20.2: Ends", ran.Ends, []api.End{{How: 7}, {How: 1}, {How: 1}, {How: 1}, {How: 2, N: 1}})
}

// Where nobody went, the least one that is ready begins.
func TestRoundBegins(t *testing.T) {
	ran := run(t, tasks(acts(take(0, 0)), acts(take(1, 0)), acts(put(1, 4)), acts(put(0, 3))))
	same(t, "P20.2: Trace", ran.Trace, turns(2, 0, 3, 0, 0, 0, 1, 0))
	ran = run(t, tasks(nil, acts(yield()), acts(yield())))
	same(t, "P20.2: Trace", ran.Trace, turns(1, 0, 2, 0))
}

// The one that went last may itself be over, or wait: those above it come next.
func TestRoundGoesOn(t *testing.T) {
	l := tasks(some(2), acts(lock(0), lock(0)), some(2), acts(panics(3)), some(1))
	ran := run(t, l, 1)
	same(t, "P20.2: Trace", ran.Trace, turns(1, 0, 2, 0, 3, 0, 4, 0, 0, 0, 2, 1, 0, 1))
	ran = run(t, tasks(some(3), acts(take(0, 0))), 0)
	same(t, "P20.2: the only one", ran.Trace, turns(0, 0, 0, 1, 0, 2))
}

func TestSixteenTasks(t *testing.T) {
	l := slices.Repeat(tasks(acts(add(0, 1), add(0, 1))), 16)
	ran := run(t, l, 15, 15+16)
	same(t, "P20.2: who went", fmt.Sprint(ran.Trace[:4], ran.Regs[0], ran.Steps), "[{15 0} {15 1} {0 0} {1 0}] 32 32")
	ready, err := sched.Ready(l, 1, []int{3, 3})
	same(t, "P20.3: all but one", fmt.Sprint(ready, err), "[0 1 2 4 5 6 7 8 9 10 11 12 13 14 15] 0")
}

// Each of the seven Ends, where most is reached: some are ready, some wait.
func TestEnds(t *testing.T) {
	l := tasks(
		acts(yield()),
		acts(panics(-3)),
		acts(yield(), yield()),
		acts(lock(0), lock(0)),
		acts(lock(1), wait(0, 1)),
		acts(put(0, 1), put(0, 2)),
		acts(take(1, 0)),
		acts(lock(2), wait(3, 2)),
		acts(lock(2), cast(3)),
	)
	// Task 7 waits and is woken, while 8 has the lock.
	ran := holds(t, l, 1, []int{0, 0, 0, 1, 1, 1, 1, 1, 1, 1, 1}, 11)
	same(t, "P20.2: Ends", ran.Ends, []api.End{{How: 1}, {How: 2, N: -3}, {How: 3}, {How: 4}, {How: 5}, {How: 6}, {How: 7}, {How: 4}, {How: 1}})
	same(t, "P20.2: Queues", ran.Queues, "[[1] [] [] []]")
	ran = holds(t, l, 1, nil, 0)
	same(t, "P20.2: ahead of all", ran.Ends, ends(3, 3, 3, 3, 3, 3, 7, 3, 3))
	ready, err := sched.Ready(l, 1, nil)
	same(t, "P20.3: ahead of all", fmt.Sprint(ready, err), "[0 1 2 3 4 5 7 8] 0")
}

func TestReady(t *testing.T) {
	l := tasks(acts(lock(0), unlock(0)), acts(lock(0)), acts(yield()))
	for _, k := range []struct {
		picks []int
		want  string
	}{
		{nil, "[0 1 2]"}, {[]int{0}, "[0 2]"}, {[]int{1}, "[2]"}, {[]int{2}, "[0 1]"}, {[]int{0, 0}, "[1 2]"}, {[]int{0, 1}, "[0]"}, {[]int{0, 1, 5}, "[1]"},
		{[]int{1, 0}, "[]"}, {[]int{1, 0, 0, 0, 7}, "[]"}, {[]int{0, 1, 5, 2}, "[]"}, {[]int{0, 0, 0, 0, 0, 0, 0}, "[]"},
	} {
		ready, err := sched.Ready(l, 1, k.picks)
		same(t, fmt.Sprintf("P20.3: Ready behind %v", k.picks), fmt.Sprint(ready, err), k.want+" 0")
	}
}
