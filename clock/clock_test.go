package clock_test

import (
	"fmt"
	"math"
	"slices"
	"testing"

	"flume/api"
	"flume/clock"
)

// at is a clock that was made at that time, with timers set so long from then.
func at(t *testing.T, start float64, ds ...float64) *clock.Clock {
	t.Helper()
	c, err := clock.New(start)
	if c == nil || err != api.OK {
		t.Fatalf("P16.1: New(%v): %v", start, err)
	}
	for i, d := range ds {
		set(t, c, d, i+1)
	}
	return c
}

// set sets a timer, and holds its number against what is wanted.
func set(t *testing.T, c *clock.Clock, d float64, want int) {
	t.Helper()
	if id, err := c.After(d); id != want || err != api.OK {
		t.Fatalf("P16.2: After(%v): %d, %v, wanted %d", d, id, err, want)
	}
}

// goes has a clock go on, and holds what goes off against what is wanted.
func goes(t *testing.T, c *clock.Clock, to float64, want ...int) {
	t.Helper()
	if ids, err := c.Go(to); !slices.Equal(ids, want) || err != api.OK || told(c.Now()) != told(math.Abs(to)) {
		t.Fatalf("P16.5: Go(%v): %v, %v, now %v, wanted %v", to, ids, err, told(c.Now()), want)
	}
}

func jumps(t *testing.T, c *clock.Clock, now float64, want ...int) {
	t.Helper()
	if ids := c.Jump(); !slices.Equal(ids, want) || told(c.Now()) != told(now) {
		t.Fatalf("P16.5: Jump: %v, now %v, wanted %v, now %v", ids, told(c.Now()), want, told(now))
	}
}

func next(t *testing.T, c *clock.Clock, want float64, ok bool) {
	t.Helper()
	if x, o := c.Next(); told(x) != told(want) || o != ok {
		t.Fatalf("P16.4: Next: %v, %v, wanted %v, %v", told(x), o, told(want), ok)
	}
}

func timers(t *testing.T, c *clock.Clock, want ...api.Timer) {
	t.Helper()
	if got := toldTimers(c.Timers()); got != toldTimers(want) {
		t.Fatalf("P16.6: Timers: %s wanted %s", got, toldTimers(want))
	}
}

// unchanged holds that a call has changed nothing that is told.
func unchanged(t *testing.T, what string, c *clock.Clock, do func()) {
	t.Helper()
	was := state(c)
	do()
	same(t, what+" changes nothing", state(c), was)
}

func TestExamples(t *testing.T) {
	c := at(t, 1, 2, inf, minus0, 2)
	id, err := c.After(nan)
	same(t, "P16.2: After(NaN)", fmt.Sprint(id, err), fmt.Sprint(0, api.ErrArg))
	next(t, c, 1, true)
	jumps(t, c, 1, 3)
	next(t, c, 3, true)
	ids, err := c.Go(0.5)
	same(t, "P16.5: Go(0.5)", fmt.Sprint(ids, err), fmt.Sprint([]int{}, api.ErrArg))
	goes(t, c, 3, 1, 4)
	ids, err = c.Go(inf)
	same(t, "P16.5: Go(+Inf)", fmt.Sprint(ids, err), fmt.Sprint([]int{}, api.ErrArg))
	timers(t, c, api.Timer{ID: 2, At: inf})
	same(t, "P16.1: New(-0)", told(at(t, minus0).Now()), told(0))
	c, err = clock.New(nan)
	same(t, "P16.1: New(NaN)", fmt.Sprint(c == nil, err), fmt.Sprint(true, api.ErrArg))
}

func TestNew(t *testing.T) {
	for _, start := range []float64{0, minus0, tiny, 0x1p-1022, 0.1, 1, 1e16, largest} {
		c := at(t, start)
		same(t, "P16.1: Now", told(c.Now()), told(math.Abs(start)))
		next(t, c, 0, false)
		timers(t, c)
		jumps(t, c, math.Abs(start))
		goes(t, c, start)
		set(t, c, 0, 1)
	}
	for _, start := range slices.Concat(nans(), below(), []float64{inf}) {
		c, err := clock.New(start)
		same(t, fmt.Sprint("P16.1: New ", told(start)), fmt.Sprint(c == nil, err), fmt.Sprint(true, api.ErrArg))
	}
}

func TestAfterGoesOffAtTheSum(t *testing.T) {
	half := 0x1p970 // half of what the greatest number is apart from the one ahead of it
	for _, k := range []struct{ start, d, at float64 }{
		{0, 0, 0}, {0, minus0, 0}, {minus0, minus0, 0}, {1, minus0, 1}, {minus0, tiny, tiny}, {tiny, tiny, 2 * tiny},
		{1, 2, 3}, {0, inf, inf}, {largest, inf, inf}, {0, largest, largest},
		{0.1, 0.2, 0.30000000000000004},
		{1e16, 1, 1e16}, {1e16, 3, 1e16 + 4}, {1e300, 1, 1e300}, {1, tiny, 1},
		{largest, 1, largest}, {largest, math.Nextafter(half, 0), largest}, {largest, half, inf}, {largest, largest, inf},
	} {
		c := at(t, k.start, k.d)
		timers(t, c, api.Timer{ID: 1, At: k.at})
		if k.at == inf {
			next(t, c, 0, false)
			jumps(t, c, math.Abs(k.start))
			goes(t, c, largest)
			timers(t, c, api.Timer{ID: 1, At: inf})
			continue
		}
		next(t, c, k.at, true)
		jumps(t, c, k.at, 1)
		timers(t, c)
	}
}

// The sum is of the time as it is when the timer is set, not of those that were added up ahead of it.
func TestAfterGoesFromNow(t *testing.T) {
	c := at(t, 0.5, 3)
	goes(t, c, 2)
	set(t, c, 0.5, 2)
	set(t, c, 0, 3)
	timers(t, c, api.Timer{ID: 3, At: 2}, api.Timer{ID: 2, At: 2.5}, api.Timer{ID: 1, At: 3.5})
	goes(t, c, 2, 3)
	goes(t, c, 10, 2, 1)
}

func TestAfterOfWrongLengths(t *testing.T) {
	c := at(t, 1, 2, inf)
	for _, d := range slices.Concat(nans(), below()) {
		unchanged(t, fmt.Sprint("P16.2: After ", d), c, func() {
			id, err := c.After(d)
			same(t, fmt.Sprint("P16.2: After ", told(d)), fmt.Sprint(id, err), fmt.Sprint(0, api.ErrArg))
		})
	}
	set(t, c, 1, 3)
}

// full is a clock with as many timers as may be, all at one time.
func full(t *testing.T, d float64) *clock.Clock {
	t.Helper()
	c := at(t, 0, slices.Repeat([]float64{d}, 255)...)
	set(t, c, d, 256)
	return c
}

func refused(t *testing.T, c *clock.Clock) {
	t.Helper()
	for _, d := range []float64{0, minus0, 1, largest, inf} {
		unchanged(t, "P16.2: the 257th timer", c, func() {
			id, err := c.After(d)
			same(t, "P16.2: the 257th timer", fmt.Sprint(id, err), fmt.Sprint(0, api.ErrMany))
		})
	}
	for _, d := range []float64{nan, -1, -inf} {
		id, err := c.After(d)
		same(t, "P0.2: ErrArg is named first", fmt.Sprint(id, err), fmt.Sprint(0, api.ErrArg))
	}
}

func TestAsManyTimersAsMayBe(t *testing.T) {
	for _, d := range []float64{0, 2, inf} {
		c := full(t, d)
		refused(t, c)
		same(t, "P16.3: Cancel", c.Cancel(100), api.OK)
		set(t, c, d, 257)
		refused(t, c)
		same(t, "P16.3: Cancel", c.Cancel(257), api.OK)
		same(t, "P16.3: Cancel", c.Cancel(1), api.OK)
		set(t, c, 1, 258)
		set(t, c, d, 259)
		refused(t, c)
		same(t, "P16.6: how many", len(c.Timers()), 256)
	}
}

func TestTimersThatWentOffMakeRoom(t *testing.T) {
	c := full(t, 2)
	goes(t, c, math.Nextafter(2, 0))
	refused(t, c)
	var all []int
	for i := range 256 {
		all = append(all, i+1)
	}
	goes(t, c, 2, all...)
	for i := range 256 {
		set(t, c, float64(i), 257+i)
	}
	refused(t, c)
	jumps(t, c, 2, 257)
	set(t, c, 9, 513)
	refused(t, c)
}

func TestCancel(t *testing.T) {
	c := at(t, 1, 3, 1, 2, inf, 1, 0)
	for _, id := range []int{0, -1, 7, 8, 100, math.MinInt, math.MaxInt, math.MaxInt32 + 2} {
		unchanged(t, "P16.3: of no timer: Cancel", c, func() {
			same(t, fmt.Sprint("P16.3: Cancel ", id), c.Cancel(id), api.ErrNone)
		})
	}
	goes(t, c, 1, 6)
	for _, id := range []int{6, 3, 3, 4, 4, 6, 1} {
		was := slices.ContainsFunc(c.Timers(), func(x api.Timer) bool { return x.ID == id })
		want := map[bool]api.Errno{true: api.OK, false: api.ErrNone}[was]
		same(t, fmt.Sprint("P16.3: Cancel ", id), c.Cancel(id), want)
	}
	timers(t, c, api.Timer{ID: 2, At: 2}, api.Timer{ID: 5, At: 2})
	set(t, c, 0, 7)
	goes(t, c, largest, 7, 2, 5)
	for id := range 9 {
		same(t, "P16.3: Cancel", c.Cancel(id), api.ErrNone)
	}
}

// Each one of several is cancelled, whatever the order in which they were set: the others stay, and go off as before.
func TestCancelOfEach(t *testing.T) {
	permutations([]float64{1, 2, 2, 3, 5, inf}, func(ds []float64) {
		for id := 1; id <= len(ds); id++ {
			play(t, 0, after(ds[0]), after(ds[1]), after(ds[2]), after(ds[3]), after(ds[4]), after(ds[5]), cancel(id), cancel(id), jump(), to(largest))
		}
	})
}

// permutations gives the numbers in each order.
func permutations(xs []float64, yield func([]float64)) {
	var walk func(at int)
	walk = func(at int) {
		if at == len(xs) {
			yield(xs)
			return
		}
		for i := at; i < len(xs); i++ {
			xs[at], xs[i] = xs[i], xs[at]
			walk(at + 1)
			xs[at], xs[i] = xs[i], xs[at]
		}
	}
	walk(0)
}

func TestNext(t *testing.T) {
	next(t, at(t, 5), 0, false)
	next(t, at(t, 5, inf), 0, false)
	next(t, at(t, 5, inf, inf, inf), 0, false)
	next(t, at(t, largest, largest, inf), 0, false)
	next(t, at(t, 5, inf, 2, 2, inf, 2), 7, true)
	next(t, at(t, 5, 3, 1, 2), 6, true)
	next(t, at(t, 0, inf, minus0), 0, true)
	next(t, at(t, 0, largest, inf), largest, true)
	c := at(t, 5, 2, 1, inf)
	for range 3 {
		unchanged(t, "P16.4: Next", c, func() { c.Next() })
	}
	c.Cancel(2)
	next(t, c, 7, true)
	c.Cancel(1)
	next(t, c, 0, false)
	c.Cancel(3)
	next(t, c, 0, false)
}

func TestGoAroundATimer(t *testing.T) {
	for _, x := range []float64{tiny, 0.1, 1, 1e16, 1e300, largest} {
		c := at(t, 0, x)
		goes(t, c, 0)
		goes(t, c, math.Nextafter(x, 0))
		next(t, c, x, true)
		goes(t, c, x, 1)
		goes(t, c, x)
		timers(t, c)
	}
	for _, x := range []float64{0, tiny, 0.1, 1, 1e16, 1e300} {
		c := at(t, 0, x)
		goes(t, c, math.Nextafter(x, inf), 1)
		timers(t, c)
		next(t, c, 0, false)
	}
}

func TestGoToNow(t *testing.T) {
	for _, x := range []float64{0, minus0, 1, largest} {
		c := at(t, x, inf)
		goes(t, c, x)
		set(t, c, 0, 2)
		set(t, c, minus0, 3)
		goes(t, c, x, 2, 3)
		goes(t, c, x)
	}
	c := at(t, 0, 0)
	goes(t, c, minus0, 1)
}

func TestGoToWhereItCannot(t *testing.T) {
	c := at(t, 1, 0, 1, inf, 0.5)
	wrong := slices.Concat(nans(), below(), []float64{inf, 0, minus0, tiny, 0.5, math.Nextafter(1, 0)})
	for _, x := range wrong {
		unchanged(t, "P16.5: Go", c, func() {
			ids, err := c.Go(x)
			same(t, fmt.Sprint("P16.5: Go ", told(x)), fmt.Sprint(len(ids), err), fmt.Sprint(0, api.ErrArg))
		})
	}
	set(t, c, 0, 5)
	goes(t, c, 1, 1, 5)
	goes(t, c, 2, 4, 2)
	ids, err := c.Go(1)
	same(t, "P16.5: Go back", fmt.Sprint(len(ids), err), fmt.Sprint(0, api.ErrArg))
	zero := at(t, 0, 1)
	for _, x := range slices.Concat(nans(), below(), []float64{inf}) {
		ids, err := zero.Go(x)
		same(t, fmt.Sprint("P16.5: Go ", told(x)), fmt.Sprint(len(ids), err), fmt.Sprint(0, api.ErrArg))
	}
	goes(t, zero, largest, 1)
	same(t, "P16.5: Go from the greatest time", fmt.Sprint(zero.Go(inf)), fmt.Sprint([]int{}, api.ErrArg))
	goes(t, zero, largest)
}

// Several of one time go off by number, in whatever order the times come, and whenever they were set.
func TestSeveralOfOneTime(t *testing.T) {
	permutations([]float64{1, 1, 1, 2, 2, inf, 0}, func(ds []float64) {
		c := at(t, 3, ds...)
		var zero, one, two []int
		for i, d := range ds {
			switch d {
			case 0:
				zero = append(zero, i+1)
			case 1:
				one = append(one, i+1)
			case 2:
				two = append(two, i+1)
			}
		}
		jumps(t, c, 3, zero...)
		goes(t, c, 10, append(one, two...)...)
		same(t, "P16.6: one is never", len(c.Timers()), 1)
	})
	c := at(t, 0, 3, 2, 3)
	goes(t, c, 1)
	set(t, c, 2, 4)
	set(t, c, 1, 5)
	goes(t, c, 2, 2, 5)
	set(t, c, 1, 6)
	goes(t, c, 3, 1, 3, 4, 6)
}

func TestJump(t *testing.T) {
	for _, ds := range [][]float64{nil, {inf}, {inf, inf, inf}} {
		c := at(t, 4, ds...)
		unchanged(t, "P16.5: Jump", c, func() { jumps(t, c, 4) })
	}
	c := at(t, largest, 1, largest)
	jumps(t, c, largest, 1)
	jumps(t, c, largest)
	c = at(t, 4, 2, 1, 2, inf, 1, 3)
	jumps(t, c, 5, 2, 5)
	jumps(t, c, 6, 1, 3)
	jumps(t, c, 7, 6)
	unchanged(t, "P16.5: Jump", c, func() { jumps(t, c, 7) })
	timers(t, c, api.Timer{ID: 4, At: inf})
	set(t, c, 0, 7)
	jumps(t, c, 7, 7)
}

func TestTimers(t *testing.T) {
	c := at(t, 1, inf, 3, 1, inf, 1, minus0, 3)
	timers(t, c, api.Timer{ID: 6, At: 1}, api.Timer{ID: 3, At: 2}, api.Timer{ID: 5, At: 2}, api.Timer{ID: 2, At: 4}, api.Timer{ID: 7, At: 4}, api.Timer{ID: 1, At: inf}, api.Timer{ID: 4, At: inf})
	unchanged(t, "P16.6: Timers", c, func() { c.Timers() })
	goes(t, c, 2, 6, 3, 5)
	same(t, "P16.3: Cancel", c.Cancel(1), api.OK)
	timers(t, c, api.Timer{ID: 2, At: 4}, api.Timer{ID: 7, At: 4}, api.Timer{ID: 4, At: inf})
}

func TestNumbersGoOnRising(t *testing.T) {
	c := at(t, 0)
	for id := 1; id < 2000; id += 3 {
		set(t, c, 1, id)
		same(t, "P16.3: Cancel", c.Cancel(id), api.OK)
		set(t, c, 0, id+1)
		goes(t, c, 0, id+1)
		c.After(nan)
		c.After(-1)
		set(t, c, 0.5, id+2)
		same(t, "P16.3: Cancel", c.Cancel(id+2), api.OK)
	}
}

// With no After between, two steps set off what one does, in the same order.
func TestGoInTwoSteps(t *testing.T) {
	ends := []float64{0, 1, 1.5, 2, 2.5, 3, 4, largest}
	permutations([]float64{1, 1, 2, 3, 0, inf}, func(ds []float64) {
		for i, mid := range ends {
			for _, end := range ends[i:] {
				one, two := at(t, 0, ds...), at(t, 0, ds...)
				whole, _ := one.Go(end)
				front, _ := two.Go(mid)
				rest, _ := two.Go(end)
				if !slices.Equal(whole, append(front, rest...)) || state(one) != state(two) {
					t.Fatalf("what follows: %v, to %v and %v: %v, wanted %v", ds, mid, end, append(front, rest...), whole)
				}
			}
		}
	})
}
