package clock_test

import (
	"fmt"
	"math"
	"math/rand"
	"slices"
	"sort"
	"strings"
	"testing"

	"flume/api"
	"flume/clock"
)

var (
	inf     = math.Inf(1)
	nan     = math.NaN()
	minus0  = math.Copysign(0, -1)
	largest = math.MaxFloat64
	tiny    = math.SmallestNonzeroFloat64
)

// nans are NaNs of several bits.
func nans() []float64 {
	return []float64{nan, -nan, math.Float64frombits(0x7ff0000000000001), math.Float64frombits(0xfff8000000000001), math.Float64frombits(math.MaxUint64)}
}

// below are numbers below 0.
func below() []float64 {
	return []float64{-tiny, -1, -0.5, -largest, -inf, -0x1p-1022}
}

func same(t *testing.T, what string, got, want any) {
	t.Helper()
	if g, w := fmt.Sprint(got), fmt.Sprint(want); g != w {
		t.Fatalf("%s: %s, wanted %s", what, g, w)
	}
}

// told is a number by its bits, and as it reads.
func told(x float64) string {
	return fmt.Sprintf("%v(%016x)", x, math.Float64bits(x))
}

func toldTimers(l []api.Timer) string {
	var b strings.Builder
	for _, t := range l {
		fmt.Fprintf(&b, "%d at %s, ", t.ID, told(t.At))
	}
	return b.String()
}

// face is what a clock can be asked.
type face interface {
	Now() float64
	After(d float64) (int, api.Errno)
	Cancel(id int) api.Errno
	Next() (float64, bool)
	Go(to float64) ([]int, api.Errno)
	Jump() []int
	Timers() []api.Timer
}

// state is all that a clock tells without being changed.
func state(c face) string {
	at, ok := c.Next()
	return fmt.Sprint("now ", told(c.Now()), " next ", told(at), ok, " timers ", toldTimers(c.Timers()))
}

// plain is a clock by the chapter's words: a list of all timers there ever were, gone over from its front each time.
type plain struct {
	now    float64
	timers []plainTimer
}

type plainTimer struct {
	at   float64
	gone bool
}

func plainNew(start float64) (*plain, api.Errno) {
	if math.IsNaN(start) || start < 0 || math.IsInf(start, 0) {
		return nil, api.ErrArg
	}
	return &plain{now: math.Abs(start)}, api.OK
}

func (p *plain) Now() float64 { return p.now }

func (p *plain) After(d float64) (int, api.Errno) {
	if math.IsNaN(d) || d < 0 {
		return 0, api.ErrArg
	}
	if len(p.Timers()) == 256 {
		return 0, api.ErrMany
	}
	p.timers = append(p.timers, plainTimer{at: p.now + math.Abs(d)})
	return len(p.timers), api.OK
}

func (p *plain) Cancel(id int) api.Errno {
	if id < 1 || id > len(p.timers) || p.timers[id-1].gone {
		return api.ErrNone
	}
	p.timers[id-1].gone = true
	return api.OK
}

func (p *plain) Next() (float64, bool) {
	l := p.Timers()
	if len(l) == 0 || math.IsInf(l[0].At, 1) {
		return 0, false
	}
	return l[0].At, true
}

func (p *plain) Go(to float64) ([]int, api.Errno) {
	if math.IsNaN(to) || to < p.now || math.IsInf(to, 0) {
		return nil, api.ErrArg
	}
	p.now = math.Abs(to)
	var ids []int
	for _, t := range p.Timers() {
		if t.At <= to {
			ids = append(ids, t.ID)
			p.timers[t.ID-1].gone = true
		}
	}
	return ids, api.OK
}

func (p *plain) Jump() []int {
	at, ok := p.Next()
	if !ok {
		return nil
	}
	ids, _ := p.Go(at)
	return ids
}

func (p *plain) Timers() []api.Timer {
	var l []api.Timer
	for i, t := range p.timers {
		if !t.gone {
			l = append(l, api.Timer{ID: i + 1, At: t.at})
		}
	}
	sort.SliceStable(l, func(i, j int) bool { return l[i].At < l[j].At })
	return l
}

// call is one call of a clock that may change it.
type call struct {
	op string
	x  float64
	id int
}

func (c call) String() string { return fmt.Sprintf("%s(%v %d)", c.op, c.x, c.id) }

// on makes the call, and tells what it answered.
func (c call) on(f face) string {
	switch c.op {
	case "after":
		id, err := f.After(c.x)
		return fmt.Sprint(id, err)
	case "cancel":
		return fmt.Sprint(f.Cancel(c.id))
	case "go":
		ids, err := f.Go(c.x)
		return fmt.Sprint(ids, err)
	case "jump":
		return fmt.Sprint(f.Jump())
	}
	panic(c.op)
}

func after(d float64) call { return call{op: "after", x: d} }
func cancel(id int) call   { return call{op: "cancel", id: id} }
func to(x float64) call    { return call{op: "go", x: x} }
func jump() call           { return call{op: "jump"} }

// play holds a clock against the plain one, at each of the calls.
func play(t *testing.T, start float64, calls ...call) {
	t.Helper()
	c, err := clock.New(start)
	p, want := plainNew(start)
	if err != want || err != api.OK {
		t.Fatalf("P16.1: New(%v): %v, wanted %v", start, err, want)
	}
	for i, k := range calls {
		if got, want := k.on(c), k.on(p); got != want {
			t.Fatalf("New(%v), %v: %s, wanted %s", start, calls[:i+1], got, want)
		}
		if got, want := state(c), state(p); got != want {
			t.Fatalf("New(%v), %v:\n%s, wanted\n%s", start, calls[:i+1], got, want)
		}
	}
}

// walks gives each list of so many of the calls.
func walks(calls []call, deep int, yield func([]call)) {
	var walk func(l []call)
	walk = func(l []call) {
		if len(l) == deep {
			yield(l)
			return
		}
		for _, c := range calls {
			walk(append(slices.Clip(l), c))
		}
	}
	walk(nil)
}

// All walks of a few calls, with times that meet.
func TestAllShortWalks(t *testing.T) {
	calls := []call{after(0), after(1), after(2), after(inf), cancel(1), cancel(2), to(1), to(2), jump()}
	walks(calls, 5, func(l []call) { play(t, 0, l...) })
	calls = []call{after(1), after(0.5), after(minus0), cancel(2), cancel(3), to(1.5), jump()}
	walks(calls, 5, func(l []call) { play(t, 1, l...) })
}

// Walks that were drawn, at all ends of the numbers.
func TestDrawnWalks(t *testing.T) {
	r := rand.New(rand.NewSource(16))
	ends := slices.Concat(nans(), below(), []float64{0, minus0, tiny, 1, 0.1, 0.2, 0.3, 1e16, 1e300, largest, inf, 0x1p970, math.Nextafter(0x1p970, 0)})
	starts := []float64{0, minus0, tiny, 1, 0.1, 1e16, 1e300, largest}
	for range 2000 {
		var calls []call
		for range r.Intn(60) {
			calls = append(calls, drawnCall(r, ends))
		}
		play(t, starts[r.Intn(len(starts))], calls...)
	}
}

func drawnCall(r *rand.Rand, ends []float64) call {
	x := float64(r.Intn(16)) / 4
	if r.Intn(6) == 0 {
		x = ends[r.Intn(len(ends))]
	}
	switch r.Intn(8) {
	case 0, 1, 2, 3:
		return after(x)
	case 4, 5:
		return cancel(r.Intn(30) - 1)
	case 6:
		return to(x)
	}
	return jump()
}

// Walks with so many timers that they meet their bound.
func TestDrawnWalksOfMany(t *testing.T) {
	r := rand.New(rand.NewSource(256))
	for range 6 {
		var calls []call
		for range 250 {
			calls = append(calls, after(float64(r.Intn(40))))
		}
		for i := range 300 {
			k := drawnCall(r, []float64{inf})
			if k.op == "cancel" {
				k.id = r.Intn(250 + i)
			}
			if k.op == "go" {
				k.x = float64(i) / 30
			}
			calls = append(calls, k, after(float64(r.Intn(40))))
		}
		play(t, 0, calls...)
	}
}
