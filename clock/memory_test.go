package clock_test

import (
	"fmt"
	"math"
	"testing"

	"flume/api"
	"flume/clock"
)

// A nil clock, and one that New did not make, whatever they are asked, and again behind that.
func TestNoClock(t *testing.T) {
	for _, c := range []*clock.Clock{nil, {}, new(clock.Clock)} {
		for range 2 {
			for _, x := range []float64{0, minus0, 1, -1, nan, inf, -inf, largest, tiny} {
				id, err := c.After(x)
				same(t, "P16.7: After", fmt.Sprint(id, err), fmt.Sprint(0, api.ErrArg))
				ids, err := c.Go(x)
				same(t, "P16.7: Go", fmt.Sprint(len(ids), err), fmt.Sprint(0, api.ErrArg))
			}
			for _, id := range []int{0, 1, -1, math.MinInt, math.MaxInt} {
				same(t, "P16.7: Cancel", c.Cancel(id), api.ErrArg)
			}
			x, ok := c.Next()
			same(t, "P16.7: Next", fmt.Sprint(told(x), ok), fmt.Sprint(told(0), false))
			same(t, "P16.7: Now", told(c.Now()), told(0))
			same(t, "P16.7: Jump", len(c.Jump()), 0)
			same(t, "P16.7: Timers", len(c.Timers()), 0)
		}
	}
}

// fill writes over a list, its spare room too.
func fill[T any](l []T, x T) {
	l = l[:cap(l)]
	for i := range l {
		l[i] = x
	}
}

// Whoever writes into what a clock answered, or appends to it, changes nothing.
func TestAnswersAreNewMemory(t *testing.T) {
	spoilt := api.Timer{ID: 77, At: -1}
	c, twin := at(t, 1, 4, 1, 2, inf, 1, 3, 2), at(t, 1, 4, 1, 2, inf, 1, 3, 2)
	for step := range 4 {
		first, second := c.Timers(), c.Timers()
		fill(first, spoilt)
		same(t, "P16.7: two lists", toldTimers(second), toldTimers(twin.Timers()))
		same(t, "P16.7: a clock whose answer was written over", state(c), state(twin))
		_ = append(second, spoilt, spoilt)
		ids, want := c.Jump(), twin.Jump()
		if step%2 == 1 {
			ids, _ = c.Go(c.Now() + 1)
			want, _ = twin.Go(twin.Now() + 1)
		}
		same(t, "P16.5: what goes off", ids, want)
		fill(ids, 77)
		_ = append(ids, 77, 77)
		same(t, "P16.7: a clock whose answer was written over", state(c), state(twin))
		set(t, c, 2, 8+step)
		set(t, twin, 2, 8+step)
		same(t, "P16.7: a clock whose answer was written over", state(c), state(twin))
	}
}

// What was answered stays, whatever the clock is told later.
func TestAnswersStay(t *testing.T) {
	c := at(t, 0, 3, 1, 2, 1)
	l := c.Timers()
	was := toldTimers(l)
	ids := c.Jump()
	later, _ := c.Go(2)
	set(t, c, 0, 5)
	c.Cancel(1)
	c.Go(9)
	same(t, "P16.7: Timers", toldTimers(l), was)
	same(t, "P16.7: Jump", ids, []int{2, 4})
	same(t, "P16.7: Go", later, []int{3})
}

func TestTwoClocksAreApart(t *testing.T) {
	a, b := at(t, 0, 1, 2), at(t, 5, 1)
	was := state(b)
	goes(t, a, 1, 1)
	set(t, a, 4, 3)
	a.Cancel(2)
	same(t, "P0.5: the other clock", state(b), was)
	set(t, b, 0, 2)
	timers(t, a, api.Timer{ID: 3, At: 5})
}
