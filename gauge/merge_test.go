package gauge_test

import (
	"fmt"
	"math"
	"math/rand"
	"testing"

	"flume/api"
	"flume/gauge"
)

func TestMerge(t *testing.T) {
	a, b := puts(with(t, 0, 1), -1, 0.5, nan), puts(with(t, 0, 1), 5, 1, nan, nan, 6)
	was := state(b)
	merges(t, a, b)
	cells(t, a, 1, 2, 2)
	looks(t, a, api.GaugeLook{Count: 5, NaNs: 3, Least: -1, Greatest: 6, Mean: -0.25 + 4.25*0.6})
	same(t, "P17.4: the other gauge", state(b), was)
	a.Put(1)
	same(t, "P17.4: the other gauge", state(b), was)
	was = state(a)
	puts(b, 1, 2, 3, nan)
	same(t, "P17.4: the other gauge told more", state(a), was)
}

// Gauges that counted nothing, on either side or both.
func TestMergeOfNothing(t *testing.T) {
	a, b := with(t, 0), with(t, 0)
	merges(t, a, b)
	looks(t, a, api.GaugeLook{})
	cells(t, a, 0, 0)

	puts(a, 3, 0.1, nan)
	was := state(a)
	merges(t, a, b)
	same(t, "P17.4: Merge of nothing", state(a), was)
	merges(t, b, a)
	same(t, "P17.4: Merge into nothing", state(b), was)
	same(t, "P17.4: the other gauge", state(a), was)

	c := puts(with(t, 0), nan, nan)
	merges(t, c, with(t, 0))
	looks(t, c, api.GaugeLook{NaNs: 2})
	merges(t, a, c)
	looks(t, a, api.GaugeLook{Count: 2, NaNs: 3, Least: 0.1, Greatest: 3, Mean: b.Look().Mean})
	merges(t, c, puts(with(t, 0), 5))
	looks(t, c, api.GaugeLook{Count: 1, NaNs: 2, Least: 5, Greatest: 5, Mean: 5})
}

// What was told below 0, or above, is not drawn to the 0 of a gauge that was told nothing.
func TestMergeKeepsTheEnds(t *testing.T) {
	for _, x := range []float64{-7, 7, minus0, 0, inf, -inf, tiny, -tiny} {
		a, b := puts(with(t), x), puts(with(t), nan)
		merges(t, a, b)
		same(t, "P17.4: Least, Greatest", toldAll([]float64{a.Look().Least, a.Look().Greatest}), toldAll([]float64{x, x}))
		merges(t, b, a)
		same(t, "P17.4: Least, Greatest", toldAll([]float64{b.Look().Least, b.Look().Greatest}), toldAll([]float64{x, x}))
	}
	a, b := puts(with(t), 0), puts(with(t), minus0)
	merges(t, a, b)
	looks(t, a, api.GaugeLook{Count: 2, Least: minus0})
	merges(t, b, puts(with(t), 0))
	looks(t, b, api.GaugeLook{Count: 2, Least: minus0})
}

func TestMergeWithItself(t *testing.T) {
	for _, xs := range [][]float64{nil, {nan}, {1}, {-3, 0.1, 0.2, nan, 9}, {minus0}, {inf}, {-inf, 1}, {largest, largest}} {
		a, twin, copied := puts(with(t, 0, 1), xs...), puts(with(t, 0, 1), xs...), puts(with(t, 0, 1), xs...)
		merges(t, a, a)
		merges(t, twin, copied)
		same(t, "P17.4: Merge with itself", state(a), state(twin))
	}
	a := puts(with(t, 0, 1), -3, 2, nan)
	merges(t, a, a)
	cells(t, a, 2, 0, 2)
	looks(t, a, api.GaugeLook{Count: 4, NaNs: 2, Least: -3, Greatest: 2, Mean: -0.5})
}

// No merge of a gauge with itself makes a count wrap, however many there are.
func TestMergeDoesNotWrap(t *testing.T) {
	a := puts(with(t, 0, 1), -3, 1, 2, 2, nan)
	for i := range 70 {
		merges(t, a, a)
		count := int64(math.MaxInt64)
		if i < 60 {
			count = 4 << (i + 1)
		}
		l := a.Look()
		same(t, "P0.6: Count", l.Count, count)
		for _, n := range append(a.Cells(), l.NaNs) {
			if n < int64(1)<<min(i+1, 62) || n > count {
				t.Fatalf("P0.6: behind %d merges: %v, %v", i+1, a.Cells(), l)
			}
		}
		same(t, "P17.4: Least, Greatest, Mean", []float64{l.Least, l.Greatest, l.Mean}, []float64{-3, 2, 0.5})
		quantile(t, a, 0, 0)
		if i < 60 {
			quantile(t, a, 0.25, 0)
			quantile(t, a, 0.5, 1)
			quantile(t, a, 0.75, 2)
			quantile(t, a, 1, 2)
		}
	}
	puts(a, 0.5, -1, nan)
	same(t, "P0.6: Count", a.Look().Count, int64(math.MaxInt64))
	merges(t, a, puts(with(t, 0, 1), 4))
	same(t, "P17.2: Greatest", a.Look().Greatest, 4)
}

// doubled merges a gauge with itself so many times.
func doubled(t *testing.T, g *gauge.Gauge, times int) *gauge.Gauge {
	t.Helper()
	for range times {
		merges(t, g, g)
	}
	return g
}

// Two counts that come to 2^63: more than a count holds, but the mean is that of both, and a part of them is where it was.
func TestMergeOfTheMost(t *testing.T) {
	a, b := doubled(t, puts(with(t, 0, 1), -0.5), 62), doubled(t, puts(with(t, 0, 1), 0.75), 62)
	merges(t, a, b)
	cells(t, a, 1<<62, 1<<62, 0)
	looks(t, a, api.GaugeLook{Count: math.MaxInt64, Least: -0.5, Greatest: 0.75, Mean: 0.125})
	quantile(t, a, 0.5, 0)
	quantile(t, a, up(0.5), 1)
	quantile(t, a, 1, 1)

	c := doubled(t, puts(with(t, 0, 1), -3, 0.5, 2, 2), 61)
	quantile(t, c, 0.25, 0)
	quantile(t, c, 0.5, 1)
	quantile(t, c, 1, 2)
}

// A part of as many as a count holds, where the float64 number of them is 2^63.
func TestQuantileOfTheMost(t *testing.T) {
	for _, bounds := range [][]float64{{1}, nil} {
		a := doubled(t, puts(with(t, bounds...), 0.25), 64)
		want := 0.25
		if len(bounds) > 0 {
			want = 1
		}
		for _, q := range []float64{0, tiny, 0.5, down(1), 1} {
			quantile(t, a, q, want)
		}
	}
}

func TestMergeRefuses(t *testing.T) {
	lists := [][]float64{nil, {1}, {2}, {up(1)}, {1, 2}, {1, 3}, {0}, {minus0}, {minus0, 0}, {-inf}, {inf}, {0, 1}, {minus0, 1}, counting(63), counting(64)}
	for i, l := range lists {
		for j, k := range lists {
			a, b := puts(with(t, l...), 1, nan), puts(with(t, k...), 2)
			was, other := state(a), state(b)
			if i == j {
				merges(t, a, b)
				continue
			}
			same(t, fmt.Sprint("P17.4: Merge of other bounds: ", l, k), a.Merge(b), api.ErrArg)
			same(t, "P17.4: a merge that is refused", state(a)+state(b), was+other)
		}
		a := puts(with(t, l...), 1, nan)
		was := state(a)
		for _, o := range []*gauge.Gauge{nil, {}} {
			same(t, "P17.4: Merge of none", a.Merge(o), api.ErrArg)
			same(t, "P17.4: a merge that is refused", state(a), was)
		}
	}
}

func TestMergeOfMeans(t *testing.T) {
	for _, c := range []struct {
		a, b []float64
		want float64
	}{
		{[]float64{1}, []float64{3}, 2}, {[]float64{1, 1, 1}, []float64{5}, 2}, {[]float64{5}, []float64{1, 1, 1}, 2},
		{[]float64{-1}, []float64{1}, 0}, {[]float64{0}, []float64{0}, 0}, {[]float64{tiny}, []float64{tiny}, tiny},
		{[]float64{tiny}, []float64{0}, tiny}, {[]float64{0}, []float64{tiny}, 0}, {[]float64{0}, []float64{3 * tiny}, 2 * tiny},
		{[]float64{0x1p53}, []float64{1}, 0x1p52}, {[]float64{largest}, []float64{largest}, largest},
		{[]float64{largest}, []float64{-largest}, -inf}, {[]float64{-largest}, []float64{largest, largest}, inf},
		{[]float64{1}, []float64{inf}, inf}, {[]float64{1}, []float64{-inf}, -inf}, {[]float64{inf}, []float64{1}, nan}, {[]float64{-inf}, []float64{1}, nan},
		{[]float64{inf}, []float64{inf}, nan}, {[]float64{inf}, []float64{-inf}, nan}, {[]float64{inf, inf}, []float64{1}, nan}, {[]float64{1}, []float64{inf, inf}, nan},
		{nil, []float64{inf}, inf}, {nil, []float64{inf, 1}, nan}, {[]float64{-inf}, nil, -inf}, {[]float64{inf, 1}, nil, nan}, {[]float64{nan}, []float64{-inf}, -inf}, {[]float64{inf}, []float64{nan}, inf},
	} {
		a, b := puts(with(t, 1), c.a...), puts(with(t, 1), c.b...)
		was := state(b)
		merges(t, a, b)
		means(t, a, c.want)
		same(t, "P17.4: the other gauge", state(b), was)
	}
}

// Put of both gauges' numbers, and Merge, have the same cells, Least and Greatest.
func TestMergeAgainstPut(t *testing.T) {
	r := rand.New(rand.NewSource(7))
	for range 300 {
		bounds := drawnBounds(r)
		a, b, all := with(t, bounds...), with(t, bounds...), with(t, bounds...)
		for range r.Intn(40) {
			x := drawnNumber(r)
			all.Put(x)
			[]*gauge.Gauge{a, b}[r.Intn(2)].Put(x)
		}
		merges(t, a, b)
		l, k := a.Look(), all.Look()
		l.Mean, k.Mean = 0, 0
		same(t, "what follows: Put of both", fmt.Sprint(a.Cells(), toldLook(l)), fmt.Sprint(all.Cells(), toldLook(k)))
	}
}
