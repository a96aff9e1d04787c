package gauge_test

import (
	"slices"
	"testing"

	"flume/api"
	"flume/gauge"
)

// A nil gauge, and one that New did not make, whatever they are asked, and again behind that.
func TestNoGauge(t *testing.T) {
	for _, g := range []*gauge.Gauge{nil, {}, new(gauge.Gauge)} {
		for range 2 {
			for _, x := range slices.Concat(ends(), nans()) {
				g.Put(x)
				noQuantile(t, g, x, api.ErrArg)
			}
			same(t, "P17.6: Cells", len(g.Cells()), 0)
			same(t, "P17.6: Look", toldLook(g.Look()), toldLook(api.GaugeLook{}))
			for _, o := range []*gauge.Gauge{nil, {}, g, with(t), with(t, 1), puts(with(t), 1)} {
				same(t, "P17.6: Merge", g.Merge(o), api.ErrArg)
			}
			o := puts(with(t), 1, nan)
			was := state(o)
			same(t, "P17.6: Merge", o.Merge(g), api.ErrArg)
			same(t, "P17.6: a gauge that was to be merged with none", state(o), was)
		}
	}
}

// fill writes over a list, its spare room too.
func fill[T any](l []T, x T) {
	l = l[:cap(l)]
	for i := range l {
		l[i] = x
	}
}

// The bounds that were handed in are neither changed nor kept.
func TestBoundsAreNotKept(t *testing.T) {
	room := []float64{minus0, 1, 2, 77, 78}
	bounds := room[:3]
	g, twin := with(t, bounds...), with(t, minus0, 1, 2)
	puts(g, -1, 1.5, nan, 3)
	puts(twin, -1, 1.5, nan, 3)
	merges(t, g, g)
	merges(t, twin, twin)
	g.Quantile(0.5)
	same(t, "P0.3: the list handed in", toldAll(room), toldAll([]float64{minus0, 1, 2, 77, 78}))
	fill(bounds, 50)
	same(t, "P17.6: bounds written over", state(g), state(twin))
	puts(g, 0, 1, 2, 60)
	puts(twin, 0, 1, 2, 60)
	same(t, "P17.6: bounds written over", state(g), state(twin))
	merges(t, g, twin)
}

func TestCellsAreNewMemory(t *testing.T) {
	g, twin := puts(with(t, 0, 1), 0, 1, 2), puts(with(t, 0, 1), 0, 1, 2)
	first, second := g.Cells(), g.Cells()
	fill(first, 77)
	_ = append(first, 78, 79)
	same(t, "P17.6: two lists", second, []int64{1, 1, 1})
	same(t, "P17.6: cells written over", state(g), state(twin))
	puts(g, 1, nan, 5)
	merges(t, g, twin)
	same(t, "P17.6: what was answered stays", second, []int64{1, 1, 1})
	cells(t, g, 2, 3, 3)
	l := g.Look()
	was := toldLook(l)
	g.Put(-100)
	same(t, "P17.6: what was answered stays", toldLook(l), was)
}

func TestTwoGaugesAreApart(t *testing.T) {
	bounds := []float64{0, 1}
	a, b := with(t, bounds...), with(t, bounds...)
	was := state(b)
	puts(a, 1, 2, nan)
	merges(t, a, a)
	same(t, "P0.5: the other gauge", state(b), was)
	merges(t, b, a)
	was = state(a)
	puts(b, 1, 2, nan)
	same(t, "P0.5: the other gauge", state(a), was)
}
