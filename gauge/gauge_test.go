package gauge_test

import (
	"fmt"
	"math"
	"math/rand"
	"slices"
	"testing"

	"flume/api"
	"flume/gauge"
)

// with is a gauge with those bounds that was told nothing.
func with(t *testing.T, bounds ...float64) *gauge.Gauge {
	t.Helper()
	g, err := gauge.New(bounds...)
	if g == nil || err != api.OK {
		t.Fatalf("P17.1: New(%v): %v", bounds, err)
	}
	same(t, "P17.2: the cells of a new gauge", g.Cells(), make([]int64, len(bounds)+1))
	same(t, "P17.2: the look of a new gauge", toldLook(g.Look()), toldLook(api.GaugeLook{}))
	return g
}

func puts(g *gauge.Gauge, xs ...float64) *gauge.Gauge {
	for _, x := range xs {
		g.Put(x)
	}
	return g
}

func cells(t *testing.T, g *gauge.Gauge, want ...int64) {
	t.Helper()
	same(t, "P17.2: Cells", g.Cells(), want)
}

func looks(t *testing.T, g *gauge.Gauge, want api.GaugeLook) {
	t.Helper()
	same(t, "P17.2: Look", toldLook(g.Look()), toldLook(want))
}

func means(t *testing.T, g *gauge.Gauge, want float64) {
	t.Helper()
	same(t, "P17.2: Mean", told(g.Look().Mean), told(want))
}

func quantile(t *testing.T, g *gauge.Gauge, q, want float64) {
	t.Helper()
	if x, err := g.Quantile(q); told(x) != told(want) || err != api.OK {
		t.Fatalf("P17.3: Quantile(%v): %v, %v, wanted %v", told(q), told(x), err, told(want))
	}
}

func noQuantile(t *testing.T, g *gauge.Gauge, q float64, want api.Errno) {
	t.Helper()
	if x, err := g.Quantile(q); told(x) != told(0) || err != want {
		t.Fatalf("P17.3: Quantile(%v): %v, %v, wanted %v", told(q), told(x), err, want)
	}
}

func merges(t *testing.T, g, o *gauge.Gauge) {
	t.Helper()
	same(t, "P17.4: Merge", g.Merge(o), api.OK)
}

func smooth(t *testing.T, v, x, alpha, want float64) {
	t.Helper()
	if y, err := gauge.Smooth(v, x, alpha); told(y) != told(want) || err != api.OK {
		t.Fatalf("P17.5: Smooth(%v, %v, %v): %v, %v, wanted %v", v, x, alpha, told(y), err, told(want))
	}
}

func noSmooth(t *testing.T, v, x, alpha float64) {
	t.Helper()
	if y, err := gauge.Smooth(v, x, alpha); told(y) != told(0) || err != api.ErrArg {
		t.Fatalf("P17.5: Smooth(%v, %v, %v): %v, %v", v, x, alpha, told(y), err)
	}
}

func TestExamples(t *testing.T) {
	g := puts(with(t, minus0, 1, inf), -1, minus0, 0, 1, math.NaN())
	cells(t, g, 2, 2, 0, 0)
	looks(t, g, api.GaugeLook{Count: 4, NaNs: 1, Least: -1, Greatest: 1})
	quantile(t, g, 0, minus0)
	quantile(t, g, 0.5, minus0)
	quantile(t, g, 0.51, 1)
	quantile(t, g, 1, 1)
	noQuantile(t, g, math.NaN(), api.ErrArg)
	smooth(t, 1, 3, 0.5, 2)
	smooth(t, math.NaN(), 3, 0.5, 3)
	smooth(t, 1, math.NaN(), 0.5, 1)
	noSmooth(t, 1, 3, 0)
}

// counting are so many numbers that rise.
func counting(n int) []float64 {
	l := make([]float64, n)
	for i := range l {
		l[i] = float64(i) - 3
	}
	return l
}

func TestNew(t *testing.T) {
	for _, bounds := range [][]float64{
		nil, {}, {0}, {minus0}, {minus0, 0}, {-tiny, minus0, 0, tiny}, {-inf}, {inf}, {-inf, inf}, {-inf, -largest, largest, inf},
		{1, up(1)}, {-2, -1}, ends(), counting(63), counting(64),
	} {
		with(t, bounds...)
	}
}

func TestNewRefuses(t *testing.T) {
	type wrong struct {
		bounds []float64
		want   api.Errno
	}
	list := []wrong{
		{[]float64{1, 1}, api.ErrArg}, {[]float64{2, 1}, api.ErrArg}, {[]float64{0, minus0}, api.ErrArg}, {[]float64{0, 0}, api.ErrArg},
		{[]float64{minus0, minus0}, api.ErrArg}, {[]float64{inf, inf}, api.ErrArg}, {[]float64{-inf, -inf}, api.ErrArg}, {[]float64{inf, -inf}, api.ErrArg},
		{[]float64{1, 2, 3, 3}, api.ErrArg}, {[]float64{1, 2, 3, 2.5, 4}, api.ErrArg}, {[]float64{1, 3, 2}, api.ErrArg}, {[]float64{-1, -2}, api.ErrArg},
		{[]float64{up(1), 1}, api.ErrArg}, {counting(65), api.ErrMany}, {counting(1000), api.ErrMany}, {make([]float64, 65), api.ErrMany},
		{slices.Repeat(nans(), 10), api.ErrMany},
	}
	for _, x := range nans() {
		list = append(list, wrong{[]float64{x}, api.ErrArg}, wrong{[]float64{1, x}, api.ErrArg}, wrong{[]float64{inf, x}, api.ErrArg},
			wrong{[]float64{x, 1}, api.ErrArg}, wrong{[]float64{1, x, 2}, api.ErrArg}, wrong{[]float64{x, x}, api.ErrArg},
			wrong{append(counting(63), x), api.ErrArg}, wrong{append(counting(64), x), api.ErrMany}, wrong{append([]float64{x}, counting(64)...), api.ErrMany})
	}
	for _, c := range list {
		if g, err := gauge.New(c.bounds...); g != nil || err != c.want {
			t.Fatalf("P17.1: New(%v): %v, %v, wanted %v", c.bounds, g, err, c.want)
		}
	}
}

// Each number goes to the first bound that it is not behind.
func TestPutAtABound(t *testing.T) {
	for _, c := range []struct {
		bounds []float64
		x      float64
		want   []int64
	}{
		{[]float64{1}, 1, []int64{1, 0}}, {[]float64{1}, down(1), []int64{1, 0}}, {[]float64{1}, up(1), []int64{0, 1}},
		{[]float64{1, 2}, 1, []int64{1, 0, 0}}, {[]float64{1, 2}, up(1), []int64{0, 1, 0}}, {[]float64{1, 2}, 2, []int64{0, 1, 0}}, {[]float64{1, 2}, up(2), []int64{0, 0, 1}},
		{[]float64{1, up(1)}, up(1), []int64{0, 1, 0}},
		{[]float64{minus0}, minus0, []int64{1, 0}}, {[]float64{minus0}, 0, []int64{0, 1}}, {[]float64{minus0}, -tiny, []int64{1, 0}}, {[]float64{minus0}, tiny, []int64{0, 1}},
		{[]float64{0}, minus0, []int64{1, 0}}, {[]float64{0}, 0, []int64{1, 0}}, {[]float64{0}, tiny, []int64{0, 1}},
		{[]float64{minus0, 0}, minus0, []int64{1, 0, 0}}, {[]float64{minus0, 0}, 0, []int64{0, 1, 0}}, {[]float64{minus0, 0}, tiny, []int64{0, 0, 1}},
		{[]float64{-inf}, -inf, []int64{1, 0}}, {[]float64{-inf}, -largest, []int64{0, 1}}, {[]float64{-largest}, -inf, []int64{1, 0}},
		{[]float64{inf}, inf, []int64{1, 0}}, {[]float64{inf}, largest, []int64{1, 0}}, {[]float64{largest}, inf, []int64{0, 1}}, {[]float64{largest}, largest, []int64{1, 0}},
		{nil, 1, []int64{1}}, {nil, -inf, []int64{1}}, {nil, inf, []int64{1}}, {nil, minus0, []int64{1}},
	} {
		g := puts(with(t, c.bounds...), c.x)
		same(t, fmt.Sprint("P17.2: bounds ", c.bounds, ", Put of ", told(c.x)), g.Cells(), c.want)
		same(t, "P17.2: Least, Greatest", toldAll([]float64{g.Look().Least, g.Look().Greatest}), toldAll([]float64{c.x, c.x}))
	}
}

// Each cell of as many as there may be.
func TestPutIntoEachCell(t *testing.T) {
	for n := range 65 {
		bounds := counting(n)
		g := with(t, bounds...)
		want := make([]int64, n+1)
		for i, b := range bounds {
			for range i % 3 {
				g.Put(b)
				g.Put(b - 0.25)
				want[i] += 2
			}
		}
		g.Put(1000)
		want[n]++
		cells(t, g, want...)
	}
}

func TestPutOfNaNs(t *testing.T) {
	for _, bounds := range [][]float64{nil, {1}, {-inf, inf}} {
		g := with(t, bounds...)
		for i, x := range nans() {
			g.Put(x)
			cells(t, g, make([]int64, len(bounds)+1)...)
			looks(t, g, api.GaugeLook{NaNs: int64(i + 1)})
		}
		g.Put(1)
		looks(t, g, api.GaugeLook{Count: 1, NaNs: int64(len(nans())), Least: 1, Greatest: 1, Mean: 1})
		g.Put(nan)
		looks(t, g, api.GaugeLook{Count: 1, NaNs: int64(len(nans()) + 1), Least: 1, Greatest: 1, Mean: 1})
	}
}

func TestLeastAndGreatest(t *testing.T) {
	for _, c := range []struct {
		xs              []float64
		least, greatest float64
	}{
		{nil, 0, 0}, {[]float64{nan}, 0, 0}, {[]float64{minus0}, minus0, minus0}, {[]float64{0}, 0, 0},
		{[]float64{0, minus0}, minus0, 0}, {[]float64{minus0, 0}, minus0, 0}, {[]float64{minus0, minus0}, minus0, minus0}, {[]float64{0, 0}, 0, 0},
		{[]float64{5, 7}, 5, 7}, {[]float64{-5, -7}, -7, -5}, {[]float64{5, nan, 3, nan, 4}, 3, 5}, {[]float64{nan, -1}, -1, -1},
		{[]float64{1, inf}, 1, inf}, {[]float64{1, -inf}, -inf, 1}, {[]float64{inf, -inf}, -inf, inf}, {[]float64{inf}, inf, inf}, {[]float64{-inf, nan}, -inf, -inf},
		{[]float64{minus0, tiny, -tiny, 0}, -tiny, tiny},
	} {
		l := puts(with(t, 1), c.xs...).Look()
		same(t, fmt.Sprint("P17.2: Least, Greatest of ", toldAll(c.xs)), toldAll([]float64{l.Least, l.Greatest}), toldAll([]float64{c.least, c.greatest}))
	}
}

// The mean goes step by step, each step rounded.
func TestMean(t *testing.T) {
	for _, c := range []struct {
		xs   []float64
		want float64
	}{
		{[]float64{5}, 5}, {[]float64{1, 2}, 1.5}, {[]float64{1, 2, 3, 4}, 2.5}, {[]float64{nan, 1, nan, 2, nan}, 1.5},
		{[]float64{0}, 0}, {[]float64{minus0}, 0}, {[]float64{minus0, minus0}, 0}, {[]float64{1, -1}, 0}, {[]float64{-1, 1}, 0},
		{[]float64{tiny}, tiny}, {[]float64{tiny, 0}, tiny}, {[]float64{0, tiny}, 0}, {[]float64{tiny, tiny, tiny, 4 * tiny}, 2 * tiny},
		{[]float64{largest, largest}, largest}, {[]float64{largest, 0}, largest / 2},
		{[]float64{largest, -largest}, -inf}, {[]float64{-largest, largest}, inf}, {[]float64{largest / 2, -largest / 2}, 0},
		{[]float64{0x1p53, 1}, 0x1p52}, {[]float64{1, 0x1p53}, 0x1p52}, {[]float64{1, 0x1p53 + 2}, 0x1p52 + 1}, {[]float64{1, 0x1p53 + 4}, 0x1p52 + 3},
		{[]float64{inf}, inf}, {[]float64{-inf}, -inf}, {[]float64{1, inf}, inf}, {[]float64{1, -inf}, -inf},
		{[]float64{inf, 1}, nan}, {[]float64{-inf, 1}, nan}, {[]float64{inf, inf}, nan}, {[]float64{-inf, -inf}, nan}, {[]float64{inf, -inf}, nan},
		{[]float64{largest, -largest, 1}, nan}, {[]float64{inf, nan}, inf},
		{[]float64{inf, 1, 1}, nan}, {[]float64{inf, inf, 0, 5, inf}, nan}, {[]float64{1, inf, 1, 1, -inf, nan}, nan},
	} {
		means(t, puts(with(t, 1), c.xs...), c.want)
	}
	g := puts(with(t), inf, -inf)
	for _, x := range slices.Concat(ends(), nans()) {
		g.Put(x)
		means(t, g, nan)
	}
}

// A mean of tenths is another one than their sum by their count: it is what the steps come to.
func TestMeanGoesByItsSteps(t *testing.T) {
	g, mean, sum := with(t), 0.0, 0.0
	unlike := 0
	for i := range 100 {
		x := float64(i%7) / 10
		g.Put(x)
		d := plainSum(x, -mean)
		mean = plainSum(mean, plainPart(d, float64(i+1)))
		means(t, g, mean)
		sum += x
		if sum/float64(i+1) != mean {
			unlike++
		}
	}
	if unlike == 0 {
		t.Fatal("the numbers tell no step from a sum")
	}
}

func TestQuantileAtTheEnds(t *testing.T) {
	g := puts(with(t, 1, 2, 3), 0.5, 1.5, 1.5, 2.5, 9, 7)
	for _, c := range []struct{ q, want float64 }{
		{0, 1}, {minus0, 1}, {tiny, 1}, {0x1p-1022, 1}, {1.0 / 7, 1}, {0.17, 2}, {0.5, 2}, {up(0.5), 3}, {0.51, 3}, {0.6, 3}, {0.67, 9}, {0.99, 9}, {down(1), 9}, {1, 9},
	} {
		quantile(t, g, c.q, c.want)
	}
	for _, q := range append(nans(), -tiny, -1, -inf, up(1), 2, inf, -0.5, largest) {
		noQuantile(t, g, q, api.ErrArg)
		noQuantile(t, with(t, 1), q, api.ErrArg)
		noQuantile(t, puts(with(t), nan), q, api.ErrArg)
	}
	for _, q := range []float64{0, minus0, tiny, 0.5, down(1), 1} {
		noQuantile(t, with(t), q, api.ErrNone)
		noQuantile(t, with(t, 1, 2), q, api.ErrNone)
		noQuantile(t, puts(with(t, 1, 2), nans()...), q, api.ErrNone)
		quantile(t, puts(with(t), 3, -4, nan), q, 3)
		quantile(t, puts(with(t, 1), 5), q, 5)
		quantile(t, puts(with(t, 1), -5), q, 1)
		quantile(t, puts(with(t, minus0, 0), 0), q, 0)
		quantile(t, puts(with(t, minus0, 0), minus0), q, minus0)
		quantile(t, puts(with(t, -inf, inf), 1), q, inf)
		quantile(t, puts(with(t, -inf), -inf), q, -inf)
		quantile(t, puts(with(t, -1), minus0), q, minus0)
		quantile(t, puts(with(t, -1), inf), q, inf)
	}
}

// The product, not its exact value, says how many: 0.1 is a little above a tenth, and ten times 0.1 is just 1; 3 times 0.1 is above 0.3.
func TestQuantileRoundsTheProduct(t *testing.T) {
	ranks := counting(64)
	for _, c := range []struct {
		q    float64
		n, r int
	}{
		{0.1, 10, 1}, {0.1, 20, 2}, {0.1, 30, 3}, {up(0.1), 10, 2}, {down(0.1), 10, 1}, {0.3, 10, 3}, {0.7, 10, 7}, {0.07, 100, 8}, {0.29, 50, 15}, {0.14, 50, 8}, {0.28, 50, 15}, {0.56, 50, 29},
		{1.0 / 3, 3, 1}, {2.0 / 3, 3, 2}, {1.0 / 49, 49, 1}, {up(1.0 / 3), 3, 1}, {up(up(1.0 / 3)), 3, 2}, {0.5, 3, 2}, {down(1), 3, 3}, {down(1), 2, 2}, {down(0.5), 2, 1}, {up(0.5), 2, 2},
	} {
		g := with(t, ranks...)
		for i := range c.n {
			g.Put(ranks[min(i, 63)])
		}
		if want := int(math.Ceil(plainProduct(c.q, float64(c.n)))); c.r != want {
			t.Errorf("%v of %d is %d", c.q, c.n, want)
		}
		quantile(t, g, c.q, ranks[min(c.r, 64)-1])
	}
}

// A part of many, at each number of them.
func TestQuantileOfEachPart(t *testing.T) {
	bounds := counting(64)
	g, p := with(t, bounds...), &plain{bounds: bounds}
	for n := range 64 {
		g.Put(bounds[n])
		p.Put(bounds[n])
		for k := range n + 2 {
			q := float64(k) / float64(n+1)
			for _, q := range []float64{max(down(q), 0), q, min(up(q), 1)} {
				want, _ := p.Quantile(q)
				quantile(t, g, q, want)
			}
		}
	}
}

func TestQuantileRises(t *testing.T) {
	r := rand.New(rand.NewSource(3))
	for range 200 {
		g := with(t, drawnBounds(r)...)
		for range 1 + r.Intn(30) {
			g.Put(drawnNumber(r))
		}
		if g.Look().Count == 0 {
			continue
		}
		last := -inf
		for i := range 101 {
			x, err := g.Quantile(float64(i) / 100)
			if err != api.OK || ahead(x, last) {
				t.Fatalf("what follows: %v behind %v", x, last)
			}
			last = x
		}
	}
}

// The order of what was told changes nothing but the mean.
func TestTheOrderOfWhatWasTold(t *testing.T) {
	r := rand.New(rand.NewSource(4))
	for range 200 {
		bounds := drawnBounds(r)
		var xs []float64
		for range r.Intn(30) {
			xs = append(xs, drawnNumber(r))
		}
		a := puts(with(t, bounds...), xs...)
		r.Shuffle(len(xs), func(i, j int) { xs[i], xs[j] = xs[j], xs[i] })
		b := puts(with(t, bounds...), xs...)
		l, k := a.Look(), b.Look()
		l.Mean, k.Mean = 0, 0
		same(t, "what follows: another order", fmt.Sprint(a.Cells(), toldLook(l)), fmt.Sprint(b.Cells(), toldLook(k)))
		same(t, "what follows: the cells' sum", sum(a.Cells()), a.Look().Count)
	}
}

func sum(l []int64) int64 {
	all := int64(0)
	for _, n := range l {
		all += n
	}
	return all
}

func TestSmooth(t *testing.T) {
	for _, c := range []struct{ v, x, alpha, want float64 }{
		{1, 3, 1, 3}, {1, 3, 0.25, 1.5}, {3, 1, 0.25, 2.5}, {1, 3, tiny, 1}, {0, 1, tiny, tiny}, {0, 3, tiny, 3 * tiny}, {1, 3, down(1), 3}, {0, 3, down(1), down(3)},
		{1, 1, 0.5, 1}, {0, 0, 0.5, 0}, {minus0, minus0, 0.5, 0}, {minus0, 0, 0.5, 0}, {0, minus0, 0.5, 0}, {minus0, -tiny, 0.25, minus0}, {-tiny, 0, 1, 0},
		{0x1p53, 1, 1, 1}, {0x1p54, 1, 1, 0}, {1, 0x1p54, 1, 0x1p54},
		{largest, -largest, 0.5, -inf}, {-largest, largest, tiny, inf}, {largest, largest, 1, largest},
		{1, inf, 0.5, inf}, {1, -inf, 0.5, -inf}, {inf, 1, 0.5, nan}, {-inf, 1, 0.5, nan}, {inf, inf, 0.5, nan}, {-inf, -inf, 1, nan}, {inf, -inf, 0.5, nan}, {-inf, inf, tiny, nan},
	} {
		smooth(t, c.v, c.x, c.alpha, c.want)
	}
	for _, alpha := range []float64{tiny, 0.5, down(1), 1} {
		for _, n := range nans() {
			for _, y := range ends() {
				smooth(t, n, y, alpha, y)
				smooth(t, y, n, alpha, y)
			}
			for _, k := range nans() {
				smooth(t, n, k, alpha, nan)
			}
		}
	}
}

func TestSmoothRefuses(t *testing.T) {
	for _, alpha := range append(nans(), 0, minus0, -tiny, -0.5, -1, -inf, up(1), 1.5, 2, inf, largest) {
		for _, v := range []float64{1, minus0, nan, inf} {
			for _, x := range []float64{3, minus0, nan, -inf} {
				noSmooth(t, v, x, alpha)
			}
		}
	}
}

// Where a fused step would answer otherwise the product is rounded first.
func TestNoStepIsFused(t *testing.T) {
	r := rand.New(rand.NewSource(6))
	unlike := 0
	for range 2000 {
		v, x, alpha := r.NormFloat64(), r.NormFloat64(), r.Float64()
		smooths(t, v, x, alpha)
		if y, _ := gauge.Smooth(v, x, alpha); y != math.FMA(alpha, x-v, v) {
			unlike++
		}
		a, b := puts(with(t, 0), r.NormFloat64(), r.NormFloat64()), puts(with(t, 0), r.NormFloat64())
		mean, d := a.Look().Mean, plainSum(b.Look().Mean, -a.Look().Mean)
		merges(t, a, b)
		means(t, a, plainSum(mean, plainProduct(d, 1.0/3)))
		if a.Look().Mean != math.FMA(d, 1.0/3, mean) {
			unlike++
		}
	}
	if unlike < 500 {
		t.Fatalf("only %d of the sums tell a fused step", unlike)
	}
}
