package sched_test

import (
	"fmt"
	"slices"
	"testing"

	"flume/api"
	"flume/sched"
)

// fill writes over a list, its spare room too.
func fill[T any](l []T, x T) {
	l = l[:cap(l)]
	for i := range l {
		l[i] = x
	}
}

// busy is tasks of which each list of a run has some elements.
func busy() [][]api.Act {
	return tasks(
		acts(put(0, 1), put(0, 2), put(1, 3), put(2, 4), put(3, 5), put(3, 6)),
		acts(take(0, 0), add(1, 5), move(1, 2), guard(5), panics(7), lock(0), wait(0, 0)),
		acts(yield(), lock(1), lock(1)),
	)
}

// What is handed in is as it was, its spare room too.
func TestWhatIsHandedInStays(t *testing.T) {
	room := busy()
	for i := range room {
		room[i] = append(room[i], yield(), panics(3))
		room[i] = room[i][:len(room[i])-2]
	}
	room = append(room, acts(panics(99)), nil)
	l := room[:3]
	roomy := []int{2, 1, 0, 5, 77, 78}
	picks := roomy[:4]
	told := func() string {
		s := fmt.Sprint(roomy, room)
		for _, acts := range room {
			s += fmt.Sprint(acts[:cap(acts)])
		}
		return s
	}
	was := told()
	sched.May(l)
	sched.Run(l, 2, picks, 50)
	sched.Ready(l, 2, picks)
	same(t, "P20.4: the lists handed in", told(), was)
}

// What was handed in is not kept: written over, it changes no answer that was given.
func TestWhatIsHandedInIsNotKept(t *testing.T) {
	l, picks := busy(), []int{2, 1, 0, 5}
	ran, _ := sched.Run(l, 2, picks, 50)
	ready, _ := sched.Ready(l, 2, picks)
	wasRan, wasReady := fmt.Sprint(ran), fmt.Sprint(ready)
	for i := range l {
		fill(l[i], panics(5))
	}
	fill(l, nil)
	fill(picks, -1)
	same(t, "P20.4: Run's answer", ran, wasRan)
	same(t, "P20.4: Ready's answer", ready, wasReady)
	again := holds(t, busy(), 2, []int{2, 1, 0, 5}, 50)
	same(t, "P20.4: the same call", again, wasRan)
}

// What is answered is new memory: written over, no other list of it changes, and no later answer.
func TestAnswersAreNewMemory(t *testing.T) {
	l, picks := busy(), []int{2, 1, 0, 5}
	one, _ := sched.Run(l, 2, picks, 50)
	two, _ := sched.Run(l, 2, picks, 50)
	was := fmt.Sprint(two)
	same(t, "P20.4: the same call twice", one, was)
	same(t, "P20.4: all of its lists have elements", len(one.Trace) > 0 && len(one.Ends) > 0 && len(one.Regs) > 0 && !slices.ContainsFunc(one.Queues, func(q []int64) bool { return len(q) == 0 }), true)
	told := []func() string{
		func() string { return fmt.Sprint(one.Trace) },
		func() string { return fmt.Sprint(one.Regs) },
		func() string { return fmt.Sprint(one.Ends) },
		func() string { return fmt.Sprint(one.Queues[0]) },
		func() string { return fmt.Sprint(one.Queues[1]) },
		func() string { return fmt.Sprint(one.Queues[2]) },
		func() string { return fmt.Sprint(one.Queues[3]) },
	}
	writes := []func(){
		func() { fill(one.Trace, api.Turn{Task: 55, Act: 66}) },
		func() { fill(one.Regs, 77) },
		func() { fill(one.Ends, api.End{How: 88, N: 99}) },
		func() { fill(one.Queues[0], 70) },
		func() { fill(one.Queues[1], 71) },
		func() { fill(one.Queues[2], 72) },
		func() { fill(one.Queues[3], 73) },
	}
	for i, write := range writes {
		var before []string
		for _, f := range told {
			before = append(before, f())
		}
		write()
		for j, f := range told {
			if j != i {
				same(t, fmt.Sprintf("P20.4: list %d, where list %d was written over", j, i), f(), before[j])
			}
		}
	}
	fill(one.Queues, nil)
	same(t, "P20.4: the other answer", two, was)
	three, _ := sched.Run(l, 2, picks, 50)
	same(t, "P20.4: a later answer", three, was)
}

func TestReadyIsNewMemory(t *testing.T) {
	l := busy()
	one, _ := sched.Ready(l, 2, []int{0})
	two, _ := sched.Ready(l, 2, []int{0})
	was := fmt.Sprint(two)
	fill(one, 9)
	_ = append(one, 8)
	same(t, "P20.4: the other list", two, was)
	three, _ := sched.Ready(l, 2, []int{0})
	same(t, "P20.4: a later list", three, was)
}

// One list of acts may be several tasks: each goes its own way.
func TestTasksThatShareAList(t *testing.T) {
	one := acts(lock(0), add(0, 1), unlock(0), put(0, 4))
	ran := holds(t, tasks(one, one, one[:2], one[1:]), 3, []int{1, 0, 3, 2}, 50)
	apart := holds(t, tasks(slices.Clone(one), slices.Clone(one), slices.Clone(one[:2]), slices.Clone(one[1:])), 3, []int{1, 0, 3, 2}, 50)
	same(t, "P20.4: one list several times", equal(ran, apart), true)
}

// Nil lists are as empty ones.
func TestNilLists(t *testing.T) {
	for _, k := range []struct{ a, b [][]api.Act }{
		{nil, [][]api.Act{}}, {tasks(nil), tasks(acts())}, {tasks(nil, some(2), nil), tasks(acts(), some(2), acts())},
	} {
		same(t, "P0.4: May", sched.May(k.a), sched.May(k.b))
		one, two := holds(t, k.a, 1, nil, 9), holds(t, k.b, 1, []int{}, 9)
		same(t, "P0.4: Run", equal(one, two), true)
		a, _ := sched.Ready(k.a, 1, nil)
		b, _ := sched.Ready(k.b, 1, []int{})
		same(t, "P0.4: Ready", a, b)
	}
}
