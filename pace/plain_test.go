package pace_test

import (
	"fmt"
	"math"
	"math/big"
	"math/rand"
	"slices"
	"testing"

	"flume/api"
	"flume/pace"
)

var (
	inf     = math.Inf(1)
	nan     = math.NaN()
	minus0  = math.Copysign(0, -1)
	largest = math.MaxFloat64
	tiny    = math.SmallestNonzeroFloat64
)

// nans are NaNs of several bits.
func nans() []float64 {
	return []float64{nan, -nan, math.Float64frombits(0x7ff0000000000001), math.Float64frombits(0x7ff8000000000001),
		math.Float64frombits(0xfff8000000000001), math.Float64frombits(0xfff0000000000002), math.Float64frombits(math.MaxUint64)}
}

// up and down are the numbers just above and just below.
func up(x float64) float64   { return math.Nextafter(x, inf) }
func down(x float64) float64 { return math.Nextafter(x, -inf) }

func same(t *testing.T, what string, got, want any) {
	t.Helper()
	if g, w := fmt.Sprint(got), fmt.Sprint(want); g != w {
		t.Fatalf("%s: %s, wanted %s", what, g, w)
	}
}

// told is a plan with its number by its bits, and as it reads.
func told(p api.Plan) string {
	return fmt.Sprintf("%v %v(%016x)", p.Go, p.Wait, math.Float64bits(p.Wait))
}

func rat(x float64) *big.Rat { return new(big.Rat).SetFloat64(x) }

// exact is whether a + b has no digit that float64 rounds away.
func exact(a, b float64) bool {
	_, is := new(big.Rat).Add(rat(a), rat(b)).Float64()
	return is
}

// The steps, each worked out exactly and rounded once.

func plainSum(a, b float64) float64 {
	x, _ := new(big.Rat).Add(rat(a), rat(b)).Float64()
	return x
}

func plainProduct(a, b float64) float64 {
	x, _ := new(big.Rat).Mul(rat(a), rat(b)).Float64()
	return x
}

// plain is a pace by the chapter's words; fused makes one step of the product and the sum, as it is not to be.
type plain struct {
	api.PaceParams
	s     float64
	fused bool
}

func plainNew(p api.PaceParams) *plain {
	return &plain{PaceParams: p, s: 1}
}

func (p *plain) Seen(n int) {
	if n < 1 || n > p.Most {
		return
	}
	d := plainSum(float64(n), -p.s)
	if p.fused {
		p.s = math.FMA(p.Alpha, d, p.s)
		return
	}
	p.s = plainSum(p.s, plainProduct(p.Alpha, d))
}

func (p *plain) Want() int {
	for n := 1; n < p.Most; n++ {
		if float64(n) >= p.s {
			return n
		}
	}
	return p.Most
}

func (p *plain) Plan(n, bytes int, age float64) api.Plan {
	if math.IsNaN(age) || age < 0 {
		age = 0
	}
	if n >= p.Most || bytes >= p.Bytes || age >= p.Linger || n > 0 && n >= p.Want() {
		return api.Plan{Go: true}
	}
	wait := plainSum(p.Linger, -age)
	if !(wait > 0) {
		wait = tiny
	}
	return api.Plan{Wait: wait}
}

// face is what a pace can be asked without being changed.
type face interface {
	Want() int
	Plan(n, bytes int, age float64) api.Plan
}

// batch is what a plan is asked of.
type batch struct {
	n, bytes int
	age      float64
}

// batches are those at and about each of the params.
func batches(p api.PaceParams, want int) []batch {
	var l []batch
	for _, n := range []int{math.MinInt, -1, 0, 1, want - 1, want, want + 1, p.Most - 1, p.Most, p.Most + 1, math.MaxInt} {
		for _, bytes := range []int{math.MinInt, -1, 0, p.Bytes - 1, p.Bytes, p.Bytes + 1, math.MaxInt} {
			for _, age := range ages(p.Linger) {
				l = append(l, batch{n, bytes, age})
			}
		}
	}
	return l
}

// ages are those about a Linger, and at the ends of the numbers.
func ages(linger float64) []float64 {
	return []float64{-inf, -largest, -1, -tiny, minus0, 0, tiny, 0.1, linger / 4, linger / 2, down(linger), linger, up(linger), 2 * linger, 1e9, largest, inf, nan, -nan}
}

// alike holds all that a pace tells against what another one tells.
func alike(t *testing.T, what string, got, want face, params api.PaceParams) {
	t.Helper()
	if got.Want() != want.Want() {
		t.Fatalf("%s: P18.2: Want: %d, wanted %d", what, got.Want(), want.Want())
	}
	for _, b := range batches(params, want.Want()) {
		g, w := got.Plan(b.n, b.bytes, b.age), want.Plan(b.n, b.bytes, b.age)
		if g.Go != w.Go || math.Float64bits(g.Wait) != math.Float64bits(w.Wait) {
			t.Fatalf("%s: P18.3: Plan(%d, %d, %v): %s, wanted %s", what, b.n, b.bytes, b.age, told(g), told(w))
		}
	}
}

// play holds a pace against a plain one at each of the batches that it sees.
func play(t *testing.T, params api.PaceParams, seen ...int) {
	t.Helper()
	p, w := with(t, params), plainNew(params)
	alike(t, fmt.Sprint(params), p, w, params)
	for i, n := range seen {
		p.Seen(n)
		w.Seen(n)
		alike(t, fmt.Sprint(params, ", Seen of ", seen[:i+1], ", s is ", w.s), p, w, params)
	}
}

// walks gives each list of so many of the numbers.
func walks(ns []int, deep int, yield func([]int)) {
	var walk func(l []int)
	walk = func(l []int) {
		if len(l) == deep {
			yield(l)
			return
		}
		for _, n := range ns {
			walk(append(slices.Clip(l), n))
		}
	}
	walk(nil)
}

// All walks of a few batches, by several params.
func TestAllShortWalks(t *testing.T) {
	for _, p := range []api.PaceParams{
		{Most: 8, Bytes: 1000, Linger: 0.5, Alpha: 0.5}, {Most: 3, Bytes: 1, Linger: tiny, Alpha: 1}, {Most: 8, Bytes: 2, Linger: 1 << 20, Alpha: 1.0 / 3},
		{Most: 4, Bytes: 1 << 20, Linger: 0.1, Alpha: down(1)}, {Most: 5, Bytes: 7, Linger: 0, Alpha: 0.1}, {Most: 2, Bytes: 7, Linger: 0x1p-1022, Alpha: tiny},
	} {
		walks([]int{0, 1, 2, p.Most - 1, p.Most, p.Most + 1}, 3, func(l []int) { play(t, p, l...) })
	}
}

func drawnParams(r *rand.Rand) api.PaceParams {
	p := api.PaceParams{Most: 1 + r.Intn(256), Bytes: 1 + r.Intn(1<<20), Linger: math.Ldexp(r.Float64(), r.Intn(21)), Alpha: 1 - r.Float64()}
	switch r.Intn(4) {
	case 0:
		p.Most = 1 + r.Intn(12)
	case 1:
		p.Linger = float64(r.Intn(8)) / 4
	case 2:
		p.Alpha = 1 / float64(1+r.Intn(64))
	}
	return p
}

func drawnSeen(r *rand.Rand, most int) []int {
	var l []int
	for range r.Intn(10) {
		l = append(l, r.Intn(most+3)-1)
	}
	return l
}

func TestDrawnWalks(t *testing.T) {
	r := rand.New(rand.NewSource(18))
	for range 300 {
		p := drawnParams(r)
		play(t, p, drawnSeen(r, p.Most)...)
	}
}

// Many batches, one behind the other: what is wanted follows them.
func TestLongWalks(t *testing.T) {
	r := rand.New(rand.NewSource(19))
	for range 200 {
		params := drawnParams(r)
		p, w := with(t, params), plainNew(params)
		mode := 0
		for range 200 {
			if r.Intn(20) == 0 {
				mode = r.Intn(3)
			}
			n := []int{1, params.Most, 1 + r.Intn(params.Most)}[mode]
			p.Seen(n)
			w.Seen(n)
			wants(t, p, w.Want())
			if w.s < 1 || w.s > float64(params.Most) {
				t.Fatalf("%v: s is %v", params, w.s)
			}
		}
	}
}

// Where a fused step would come to another whole number the product is rounded first.
func TestNoStepIsFused(t *testing.T) {
	unlike := 0
	for parts := 3; parts <= 64; parts++ {
		params := api.PaceParams{Most: 256, Bytes: 1, Linger: 1, Alpha: 1 / float64(parts)}
		for range 8 {
			params.Alpha = up(params.Alpha)
			for _, n := range []int{1 + parts, 1 + 2*parts, 1 + 3*parts} {
				p, w, fused := with(t, params), plainNew(params), plainNew(params)
				fused.fused = true
				p.Seen(n)
				w.Seen(n)
				fused.Seen(n)
				same(t, fmt.Sprint("P18.2: Want of ", params, " behind ", n), p.Want(), w.Want())
				if w.Want() != fused.Want() {
					unlike++
				}
			}
		}
	}
	if unlike < 20 {
		t.Fatalf("only %d of the batches tell a fused step", unlike)
	}
}

// with is a pace of those params that has seen no batch.
func with(t *testing.T, params api.PaceParams) *pace.Pace {
	t.Helper()
	p, err := pace.New(params)
	if p == nil || err != api.OK {
		t.Fatalf("P18.1: New(%v): %v", params, err)
	}
	return p
}

func wants(t *testing.T, p *pace.Pace, want int) {
	t.Helper()
	same(t, "P18.2: Want", p.Want(), want)
}
