package clock

import (
	"cmp"

	"flume/api"
	"flume/real"
)

// byTime orders timers as they go off: of one time by number, and those that never do last.
func byTime(a, b api.Timer) int {
	return cmp.Or(real.Compare(a.At, b.At), cmp.Compare(a.ID, b.ID))
}

// timers is a heap: the one that goes off first stands first.
type timers []api.Timer

// Len is asked by the heap, as are the four below.
func (l timers) Len() int { return len(l) }

func (l timers) Less(i, j int) bool { return byTime(l[i], l[j]) < 0 }

func (l timers) Swap(i, j int) { l[i], l[j] = l[j], l[i] }

// Push takes what heap.Push was given, which is always a timer.
func (l *timers) Push(x any) {
	if t, ok := x.(api.Timer); ok {
		*l = append(*l, t)
	}
}

// Pop gives up the last one, where the heap has laid what is to go.
func (l *timers) Pop() any {
	last := len(*l) - 1
	t := (*l)[last]
	*l = (*l)[:last]
	return t
}
