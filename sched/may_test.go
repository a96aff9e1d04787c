package sched_test

import (
	"fmt"
	"math"
	"slices"
	"testing"

	"flume/api"
	"flume/sched"
)

// may holds what is told of tasks by all three calls.
func may(t *testing.T, want api.Errno, l [][]api.Act) {
	t.Helper()
	what := fmt.Sprintf("P20.1: %d tasks", len(l))
	got := sched.May(l)
	ran, err := sched.Run(l, 1, nil, 0)
	ready, err2 := sched.Ready(l, 1, nil)
	if got != want || err != want || err2 != want {
		t.Fatalf("%s: May, Run, Ready: %v, %v, %v, wanted %v: %.500s", what, got, err, err2, want, fmt.Sprint(l))
	}
	if want != api.OK {
		noRan(t, what, ran)
		same(t, what+": Ready", len(ready), 0)
	}
}

// noRan holds that a run is the zero one.
func noRan(t *testing.T, what string, ran api.Ran) {
	t.Helper()
	same(t, what+": Run", fmt.Sprint(ran.Steps, len(ran.Trace), len(ran.Regs), len(ran.Ends), len(ran.Queues)), "0 0 0 0 0")
}

// some is so many acts that may be.
func some(many int) []api.Act {
	return slices.Repeat(acts(yield()), many)
}

func TestMayOfNone(t *testing.T) {
	may(t, api.OK, nil)
	may(t, api.OK, [][]api.Act{})
	may(t, api.OK, tasks(nil))
	may(t, api.OK, tasks(acts(), nil, acts(yield())))
}

func TestMayOfMany(t *testing.T) {
	for many := range 17 {
		may(t, api.OK, slices.Repeat(tasks(some(1)), many))
		may(t, api.OK, make([][]api.Act, many))
	}
	for _, many := range []int{17, 18, 32, 256, 257, 1000} {
		may(t, api.ErrMany, make([][]api.Act, many))
		may(t, api.ErrMany, slices.Repeat(tasks(some(1)), many))
	}
	may(t, api.OK, tasks(some(255)))
	may(t, api.OK, tasks(some(256)))
	may(t, api.OK, slices.Repeat(tasks(some(256)), 16))
	for _, many := range []int{257, 258, 512, 65536} {
		may(t, api.ErrMany, tasks(some(many)))
		for i := range 16 {
			l := make([][]api.Act, 16)
			l[i] = some(many)
			may(t, api.ErrMany, l)
		}
	}
}

func TestMayOfKinds(t *testing.T) {
	for _, kind := range []int{0, 14, 15, -1, -13, 100, 1 + 1<<32, 13 - 1<<32, math.MaxInt, math.MinInt} {
		may(t, api.ErrKind, tasks(acts(api.Act{Kind: kind})))
		may(t, api.ErrKind, tasks(acts(yield()), acts(yield(), api.Act{Kind: kind, A: 9, B: 9, N: 9}, yield())))
	}
	for kind := 1; kind <= 13; kind++ {
		may(t, api.OK, tasks(acts(api.Act{Kind: kind})))
	}
}

// uses is what an act uses: how many an A or B names one of, 0: it uses none; and what N may be, from 0 on: -1: anything.
type uses struct {
	kind, a, b int
	n          int64
}

func allUses(acts int64) []uses {
	return []uses{
		{api.ActLock, 4, 0, 0}, {api.ActUnlock, 4, 0, 0}, {api.ActWait, 4, 4, 0}, {api.ActSignal, 4, 0, 0}, {api.ActCast, 4, 0, 0},
		{api.ActPut, 4, 0, -1}, {api.ActTake, 4, 8, 0}, {api.ActAdd, 8, 0, -1}, {api.ActCopy, 8, 8, 0}, {api.ActSkip, 8, 0, 255},
		{api.ActYield, 0, 0, 0}, {api.ActPanic, 0, 0, -1}, {api.ActGuard, 0, 0, acts},
	}
}

// Each Kind with each A, B and N about the edges.
func TestMayOfWhatAnActUses(t *testing.T) {
	near := []int{math.MinInt, -1 << 32, -1, 0, 1, 3, 4, 7, 8, 16, 1 << 32, math.MaxInt}
	nears := []int64{math.MinInt64, -1, 0, 1, 2, 3, 4, 254, 255, 256, 1 << 32, math.MaxInt64}
	fits := func(x, many int) bool { return x >= 0 && x < max(many, 1) }
	for _, many := range []int{1, 3, 255, 256} {
		for _, u := range allUses(int64(many)) {
			for _, a := range near {
				for _, b := range near {
					for _, n := range nears {
						want := api.ErrArg
						if fits(a, u.a) && fits(b, u.b) && (u.n < 0 || n >= 0 && n <= u.n) {
							want = api.OK
						}
						l := some(many)
						l[many-1] = api.Act{Kind: u.kind, A: a, B: b, N: n}
						if got := sched.May(tasks(l)); got != want {
							t.Fatalf("P20.1: May of %+v as one of %d: %v, wanted %v", l[many-1], many, got, want)
						}
					}
				}
			}
		}
	}
}

func TestMayOfASkip(t *testing.T) {
	for _, n := range []int64{0, 1, 254, 255} {
		may(t, api.OK, tasks(acts(skip(7, n))))
	}
	for _, n := range []int64{-1, 256, 257, 1 << 32, math.MaxInt64, math.MinInt64} {
		may(t, api.ErrArg, tasks(acts(skip(7, n))))
		may(t, api.ErrArg, tasks(append(some(255), skip(7, n))))
	}
}

// A guard's N is up to the number of acts of its own task, wherever it stands there.
func TestMayOfAGuard(t *testing.T) {
	for many := 1; many <= 256; many++ {
		for _, at := range []int{0, many / 2, many - 1} {
			with := func(n int64) [][]api.Act {
				l := some(many)
				l[at] = guard(n)
				return tasks(some(256), l, nil)
			}
			for _, n := range []int64{0, int64(many - 1), int64(many)} {
				may(t, api.OK, with(n))
			}
			for _, n := range []int64{-1, int64(many + 1), math.MaxInt64, math.MinInt64, 1 << 32} {
				may(t, api.ErrArg, with(n))
			}
		}
	}
}

// Where several errors apply the first one is told, in whichever task, and wherever in it.
func TestMayOfSeveral(t *testing.T) {
	noArg, noKind := lock(4), api.Act{Kind: 14}
	may(t, api.ErrKind, tasks(acts(noArg, noKind)))
	may(t, api.ErrKind, tasks(acts(noKind, noArg)))
	may(t, api.ErrKind, tasks(acts(noArg), acts(noKind)))
	may(t, api.ErrKind, tasks(acts(noKind), acts(noArg)))
	may(t, api.ErrKind, tasks(acts(yield(), noArg), nil, acts(yield(), yield(), api.Act{Kind: -5, B: 3})))
	may(t, api.ErrArg, tasks(acts(yield()), nil, acts(yield(), noArg)))
	for _, bad := range []api.Act{noArg, noKind} {
		may(t, api.ErrMany, slices.Repeat(tasks(acts(bad)), 17))
		may(t, api.ErrMany, append(tasks(acts(bad)), make([][]api.Act, 16)...))
		may(t, api.ErrMany, tasks(slices.Repeat(acts(bad), 257)))
		may(t, api.ErrMany, tasks(acts(bad), some(257)))
		may(t, api.ErrMany, tasks(some(257), acts(bad)))
	}
	may(t, api.ErrMany, tasks(acts(noArg), acts(noKind), some(257)))
}
