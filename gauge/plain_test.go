package gauge_test

import (
	"fmt"
	"math"
	"math/big"
	"math/rand"
	"slices"
	"strings"
	"testing"

	"flume/api"
	"flume/gauge"
)

var (
	inf     = math.Inf(1)
	nan     = math.Float64frombits(0x7ff8000000000001)
	minus0  = math.Copysign(0, -1)
	largest = math.MaxFloat64
	tiny    = math.SmallestNonzeroFloat64
)

// nans are NaNs of several bits, the canonical one among them.
func nans() []float64 {
	return []float64{nan, -nan, math.Float64frombits(0x7ff0000000000001), math.Float64frombits(0x7ff8000000000000),
		math.Float64frombits(0xfff8000000000001), math.Float64frombits(0xfff0000000000002), math.Float64frombits(math.MaxUint64)}
}

// up and down are the numbers just above and just below.
func up(x float64) float64   { return math.Nextafter(x, inf) }
func down(x float64) float64 { return math.Nextafter(x, -inf) }

func same(t *testing.T, what string, got, want any) {
	t.Helper()
	if g, w := fmt.Sprint(got), fmt.Sprint(want); g != w {
		t.Fatalf("%s: %s, wanted %s", what, g, w)
	}
}

// told is a number by its bits, and as it reads.
func told(x float64) string {
	return fmt.Sprintf("%v(%016x)", x, math.Float64bits(x))
}

func toldAll(xs []float64) string {
	var b strings.Builder
	for _, x := range xs {
		b.WriteString(told(x) + " ")
	}
	return b.String()
}

func toldLook(l api.GaugeLook) string {
	return fmt.Sprint(l.Count, " and ", l.NaNs, ", ", told(l.Least), " to ", told(l.Greatest), ", mean ", told(l.Mean))
}

// ahead tells whether a stands ahead of b in real's order; neither is a NaN.
func ahead(a, b float64) bool {
	if a == 0 && b == 0 {
		return math.Signbit(a) && !math.Signbit(b)
	}
	return a < b
}

func finite(xs ...float64) bool {
	for _, x := range xs {
		if math.IsNaN(x) || math.IsInf(x, 0) {
			return false
		}
	}
	return true
}

func rat(x float64) *big.Rat { return new(big.Rat).SetFloat64(x) }

// rounded is an exact result as a float64 number; where it is no number, or 0, whose sign it does not tell, the other one holds.
func rounded(x *big.Rat, other float64) float64 {
	f, _ := x.Float64()
	if f == 0 {
		return other
	}
	return f
}

// The steps, each worked out exactly and rounded once.

func plainSum(a, b float64) float64 {
	if !finite(a, b) {
		return canon(a + b)
	}
	return rounded(new(big.Rat).Add(rat(a), rat(b)), a+b)
}

func plainProduct(a, b float64) float64 {
	if !finite(a, b) {
		return canon(a * b)
	}
	return rounded(new(big.Rat).Mul(rat(a), rat(b)), a*b)
}

// plainPart is a / b; b is finite and above 0.
func plainPart(a, b float64) float64 {
	if !finite(a) {
		return canon(a / b)
	}
	return rounded(new(big.Rat).Quo(rat(a), rat(b)), a/b)
}

func canon(x float64) float64 {
	if math.IsNaN(x) {
		return nan
	}
	return x
}

// plain is a gauge by the chapter's words: a list of all that it was told, gone over each time.
type plain struct {
	bounds []float64
	told   []float64
	nans   int
	mean   float64
}

func plainNew(bounds ...float64) (*plain, api.Errno) {
	if len(bounds) > 64 {
		return nil, api.ErrMany
	}
	for i, b := range bounds {
		if math.IsNaN(b) || i > 0 && !ahead(bounds[i-1], b) {
			return nil, api.ErrArg
		}
	}
	return &plain{bounds: slices.Clone(bounds)}, api.OK
}

func (p *plain) Put(x float64) {
	if math.IsNaN(x) {
		p.nans++
		return
	}
	p.told = append(p.told, x)
	d := plainSum(x, -p.mean)
	p.mean = plainSum(p.mean, plainPart(d, float64(len(p.told))))
}

// cell is the number of the first bound that x is not behind.
func (p *plain) cell(x float64) int {
	for i, b := range p.bounds {
		if !ahead(b, x) {
			return i
		}
	}
	return len(p.bounds)
}

func (p *plain) Cells() []int64 {
	l := make([]int64, len(p.bounds)+1)
	for _, x := range p.told {
		l[p.cell(x)]++
	}
	return l
}

func (p *plain) sorted() []float64 {
	l := slices.Clone(p.told)
	slices.SortFunc(l, func(a, b float64) int {
		switch {
		case ahead(a, b):
			return -1
		case ahead(b, a):
			return 1
		}
		return 0
	})
	return l
}

func (p *plain) Look() api.GaugeLook {
	l := api.GaugeLook{Count: int64(len(p.told)), NaNs: int64(p.nans), Mean: p.mean}
	if s := p.sorted(); len(s) > 0 {
		l.Least, l.Greatest = s[0], s[len(s)-1]
	}
	return l
}

// Quantile looks for the cell of the r-th number by size.
func (p *plain) Quantile(q float64) (float64, api.Errno) {
	if math.IsNaN(q) || q < 0 || q > 1 {
		return 0, api.ErrArg
	}
	s := p.sorted()
	if len(s) == 0 {
		return 0, api.ErrNone
	}
	part := plainProduct(q, float64(len(s)))
	r := 1
	for r < len(s) && float64(r) < part {
		r++
	}
	if i := p.cell(s[r-1]); i < len(p.bounds) {
		return p.bounds[i], api.OK
	}
	return s[len(s)-1], api.OK
}

func (p *plain) Merge(o *plain) api.Errno {
	if o == nil || toldAll(p.bounds) != toldAll(o.bounds) {
		return api.ErrArg
	}
	m, n := len(p.told), len(o.told)
	switch {
	case n == 0:
	case m == 0:
		p.mean = o.mean
	default:
		d := plainSum(o.mean, -p.mean)
		w := plainPart(float64(n), float64(m+n))
		p.mean = plainSum(p.mean, plainProduct(d, w))
	}
	p.told = append(p.told, slices.Clone(o.told)...)
	p.nans += o.nans
	return api.OK
}

func plainSmooth(v, x, alpha float64) (float64, api.Errno) {
	switch {
	case math.IsNaN(alpha) || alpha <= 0 || alpha > 1:
		return 0, api.ErrArg
	case math.IsNaN(x):
		return canon(v), api.OK
	case math.IsNaN(v):
		return x, api.OK
	}
	return plainSum(v, plainProduct(alpha, plainSum(x, -v))), api.OK
}

// face is what a gauge can be asked without being changed.
type face interface {
	Cells() []int64
	Look() api.GaugeLook
	Quantile(q float64) (float64, api.Errno)
}

// state is all that a gauge tells.
func state(g face) string {
	var b strings.Builder
	fmt.Fprint(&b, g.Cells(), " ", toldLook(g.Look()))
	for _, q := range []float64{0, minus0, tiny, 0.1, 0.25, 1.0 / 3, 0.5, up(0.5), 0.51, 2.0 / 3, 0.75, 0.9, down(1), 1} {
		x, err := g.Quantile(q)
		fmt.Fprint(&b, ", ", q, " ", told(x), err)
	}
	return b.String()
}

// call is one call of one of two gauges: a number that it is told, or a merge with one of the two.
type call struct {
	on   int
	op   string
	x    float64
	from int
}

func (c call) String() string { return fmt.Sprintf("%d.%s(%v %d)", c.on, c.op, c.x, c.from) }

func put(on int, x float64) call { return call{on: on, op: "put", x: x} }
func merge(on, from int) call    { return call{on: on, op: "merge", from: from} }

// play holds two gauges against two plain ones, at each of the calls.
func play(t *testing.T, bounds []float64, calls ...call) {
	t.Helper()
	var gs [2]*gauge.Gauge
	var ps [2]*plain
	for i := range gs {
		var err, want api.Errno
		gs[i], err = gauge.New(bounds...)
		ps[i], want = plainNew(bounds...)
		if err != want || err != api.OK {
			t.Fatalf("P17.1: New(%v): %v, wanted %v", bounds, err, want)
		}
	}
	for i, c := range calls {
		if c.op == "put" {
			gs[c.on].Put(c.x)
			ps[c.on].Put(c.x)
		} else if got, want := gs[c.on].Merge(gs[c.from]), ps[c.on].Merge(ps[c.from]); got != want {
			t.Fatalf("New(%v), %v: %v, wanted %v", bounds, calls[:i+1], got, want)
		}
		for k := range gs {
			if got, want := state(gs[k]), state(ps[k]); got != want {
				t.Fatalf("New(%v), %v, gauge %d:\n%s, wanted\n%s", bounds, calls[:i+1], k, got, want)
			}
		}
	}
}

// walks gives each list of so many of the calls.
func walks(calls []call, deep int, yield func([]call)) {
	var walk func(l []call)
	walk = func(l []call) {
		if len(l) == deep {
			yield(l)
			return
		}
		for _, c := range calls {
			walk(append(slices.Clip(l), c))
		}
	}
	walk(nil)
}

// All walks of a few calls, of numbers that meet their bounds.
func TestAllShortWalks(t *testing.T) {
	calls := []call{put(0, minus0), put(0, 1.5), put(0, nan), put(1, 0), put(1, -1), merge(0, 1), merge(1, 0), merge(0, 0)}
	walks(calls, 4, func(l []call) { play(t, []float64{minus0, 1}, l...) })
	walks(calls, 3, func(l []call) { play(t, nil, l...) })
	calls = []call{put(0, inf), put(0, 0.1), put(1, -inf), put(1, 0.7), merge(0, 1), merge(1, 0), merge(1, 1)}
	walks(calls, 4, func(l []call) { play(t, []float64{-inf, 0, inf}, l...) })
	calls = []call{put(0, largest), put(0, -largest), put(1, tiny), put(1, largest), merge(0, 1), merge(1, 0)}
	walks(calls, 4, func(l []call) { play(t, []float64{-largest, tiny}, l...) })
}

// ends are numbers at the ends of their kinds, which rise in real's order.
func ends() []float64 {
	return []float64{-inf, -largest, -1e300, -2, -1, down(0) * 3, -tiny, minus0, 0, tiny, 0x1p-1022, 0.1, 0.3, down(1), 1, up(1), 2, 3, 0x1p53, 1e300, down(largest), largest, inf}
}

// drawnBounds are some of the ends, or many numbers that rise.
func drawnBounds(r *rand.Rand) []float64 {
	var l []float64
	if r.Intn(8) == 0 {
		for i := range 1 + r.Intn(64) {
			l = append(l, float64(i)/8)
		}
		return l
	}
	for _, x := range ends() {
		if r.Intn(4) == 0 {
			l = append(l, x)
		}
	}
	return l
}

func drawnNumber(r *rand.Rand) float64 {
	all := ends()
	switch r.Intn(8) {
	case 0:
		return nans()[r.Intn(len(nans()))]
	case 1:
		return all[1+r.Intn(len(all)-2)]
	case 2:
		return math.Float64frombits(r.Uint64())
	case 3:
		return float64(r.Intn(80)) / 8
	}
	return r.NormFloat64()
}

func drawnCall(r *rand.Rand) call {
	on := r.Intn(2)
	switch r.Intn(40) {
	case 0, 1:
		return merge(on, 1-on)
	case 2:
		return merge(on, on)
	case 3:
		return put(on, []float64{inf, -inf}[r.Intn(2)])
	}
	return put(on, drawnNumber(r))
}

// Walks that were drawn, at all ends of the numbers, and with means that stay numbers.
func TestDrawnWalks(t *testing.T) {
	r := rand.New(rand.NewSource(17))
	for i := range 400 {
		var calls []call
		for range r.Intn(40) {
			c := drawnCall(r)
			if i%2 == 0 && c.op == "put" {
				c.x = math.Round(r.NormFloat64()*40) / 8
			}
			calls = append(calls, c)
		}
		play(t, drawnBounds(r), calls...)
	}
}

// Smooth of all ends with all ends, and of numbers that were drawn.
func TestSmoothByTheWords(t *testing.T) {
	all := slices.Concat(ends(), nans())
	alphas := slices.Concat(all, []float64{0.5, up(0.5), 1.0 / 3, 0.9})
	for _, alpha := range alphas {
		for _, v := range all {
			for _, x := range all {
				smooths(t, v, x, alpha)
			}
		}
	}
	r := rand.New(rand.NewSource(5))
	for range 20000 {
		smooths(t, drawnNumber(r), drawnNumber(r), r.Float64())
	}
}

func smooths(t *testing.T, v, x, alpha float64) {
	t.Helper()
	got, err := gauge.Smooth(v, x, alpha)
	want, wanted := plainSmooth(v, x, alpha)
	if told(got) != told(want) || err != wanted {
		t.Fatalf("P17.5: Smooth(%v, %v, %v): %v, %v, wanted %v, %v", told(v), told(x), told(alpha), told(got), err, told(want), wanted)
	}
}
