package pace_test

import (
	"fmt"
	"math"
	"math/rand"
	"testing"

	"flume/api"
	"flume/pace"
)

func sees(p *pace.Pace, ns ...int) *pace.Pace {
	for _, n := range ns {
		p.Seen(n)
	}
	return p
}

func goes(t *testing.T, p *pace.Pace, n, bytes int, age float64) {
	t.Helper()
	same(t, fmt.Sprintf("P18.3: Plan(%d, %d, %v)", n, bytes, age), told(p.Plan(n, bytes, age)), told(api.Plan{Go: true}))
}

func waits(t *testing.T, p *pace.Pace, n, bytes int, age, want float64) {
	t.Helper()
	same(t, fmt.Sprintf("P18.3: Plan(%d, %d, %v)", n, bytes, age), told(p.Plan(n, bytes, age)), told(api.Plan{Wait: want}))
}

// usual are the params of the chapter's examples.
var usual = api.PaceParams{Most: 8, Bytes: 1000, Linger: 0.5, Alpha: 0.5}

func TestExamples(t *testing.T) {
	p := with(t, usual)
	waits(t, p, 0, 0, 0, 0.5)
	goes(t, p, 1, 10, 0)
	goes(t, p, 0, 0, 0.5)
	waits(t, p, 0, 0, nan, 0.5)
	p.Seen(8)
	wants(t, p, 5)
	waits(t, p, 1, 10, 0.25, 0.25)
	goes(t, p, 5, 10, 0)
}

// The edges of each of the params: what may be, and what may not.
var (
	mosts       = []int{1, 2, 8, 255, 256}
	noMosts     = []int{0, -1, -256, 257, 258, 1 << 32, 1<<32 + 1, math.MinInt, math.MaxInt}
	byteses     = []int{1, 2, 4096, 1<<20 - 1, 1 << 20}
	noByteses   = []int{0, -1, -(1 << 20), 1<<20 + 1, 1 << 21, 1<<32 + 1, math.MinInt, math.MaxInt}
	lingers     = []float64{0, minus0, tiny, 0x1p-1022, 0.1, 1, down(1 << 20), 1 << 20}
	noLingers   = append(nans(), -tiny, down(0), -0.5, -1, -(1 << 20), up(1<<20), 1048577, largest, -largest, inf, -inf)
	alphas      = []float64{tiny, 0x1p-1022, 0.1, 0.5, down(1), 1}
	noAlphas    = append(nans(), 0, minus0, -tiny, -0.5, -1, up(1), 1.5, 2, 256, largest, -largest, inf, -inf)
	firstEdge   = api.PaceParams{Most: 1, Bytes: 1, Linger: 0, Alpha: tiny}
	lastEdge    = api.PaceParams{Most: 256, Bytes: 1 << 20, Linger: 1 << 20, Alpha: 1}
	soundParams = []api.PaceParams{firstEdge, usual, lastEdge}
)

func TestNew(t *testing.T) {
	for _, most := range mosts {
		for _, bytes := range byteses {
			for _, linger := range lingers {
				for _, alpha := range alphas {
					p := with(t, api.PaceParams{Most: most, Bytes: bytes, Linger: linger, Alpha: alpha})
					wants(t, p, 1)
				}
			}
		}
	}
}

func refused(t *testing.T, params api.PaceParams) {
	t.Helper()
	if p, err := pace.New(params); p != nil || err != api.ErrArg {
		t.Fatalf("P18.1: New(%v): %v, %v", params, p, err)
	}
}

// One of the params is not such, whatever the others are.
func TestNewRefuses(t *testing.T) {
	for _, sound := range soundParams {
		for _, most := range noMosts {
			p := sound
			p.Most = most
			refused(t, p)
		}
		for _, bytes := range noByteses {
			p := sound
			p.Bytes = bytes
			refused(t, p)
		}
		for _, linger := range noLingers {
			p := sound
			p.Linger = linger
			refused(t, p)
		}
		for _, alpha := range noAlphas {
			p := sound
			p.Alpha = alpha
			refused(t, p)
		}
	}
	refused(t, api.PaceParams{})
	refused(t, api.PaceParams{Most: -1, Bytes: -1, Linger: nan, Alpha: nan})
}

// A Linger of -0 is one of 0: every batch goes, whatever its age.
func TestLingerOfNothing(t *testing.T) {
	for _, linger := range []float64{0, minus0} {
		p := sees(with(t, api.PaceParams{Most: 8, Bytes: 8, Linger: linger, Alpha: 1}), 8)
		wants(t, p, 8)
		for _, age := range ages(linger) {
			for _, n := range []int{math.MinInt, -1, 0, 1, 7, 8} {
				goes(t, p, n, 0, age)
				goes(t, p, n, -1, age)
			}
		}
	}
}

// A batch of no record, or of more than Most, was none.
func TestSeenOfNoBatch(t *testing.T) {
	for _, most := range mosts {
		params := api.PaceParams{Most: most, Bytes: 100, Linger: 2, Alpha: 0.25}
		for _, first := range []int{1, most, (most + 1) / 2} {
			p, w := sees(with(t, params), first), sees(with(t, params), first)
			for _, n := range []int{0, -1, -most, most + 1, most + 256, 1 << 32, 1<<32 + 1, -1<<32 + 1, math.MinInt, math.MaxInt} {
				p.Seen(n)
				alike(t, fmt.Sprint("P18.2: ", params, ", Seen(", n, ")"), p, w, params)
			}
			for range 5 {
				p.Seen(most)
				w.Seen(most)
				alike(t, "P18.2: and batches behind that", p, w, params)
			}
		}
	}
}

// A batch of one record is one, and so is one of Most.
func TestSeenAtItsEnds(t *testing.T) {
	p := with(t, usual)
	for _, c := range []struct{ n, want int }{{8, 5}, {1, 3}, {1, 2}, {8, 5}, {8, 7}, {8, 8}, {8, 8}, {1, 5}, {2, 4}, {3, 4}, {3, 4}, {1, 3}} {
		p.Seen(c.n)
		wants(t, p, c.want)
	}
}

// One batch leads from 1 to a whole number, just above it, or just below.
func TestWantAtAWholeNumber(t *testing.T) {
	for _, c := range []struct {
		n     int
		alpha float64
		s     float64
		want  int
	}{
		{3, 0.5, 2, 2}, {3, 0.5 - 0x1p-53, down(2), 2}, {3, 0.5 + 0x1p-52, up(2), 3}, {3, up(0.5), 2, 2}, {3, down(0.5), 2, 2},
		{5, 0.5, 3, 3}, {5, 0.5 - 0x1p-52, 3 - 0x1p-50, 3}, {5, 0.5 - 0x1p-53, down(3), 3}, {5, 0.5 + 0x1p-53, up(3), 4},
		{9, 0.5, 5, 5}, {9, 0.5 + 0x1p-53, up(5), 6}, {9, 0.5 - 0x1p-53, down(5), 5},
		{8, 0.5, 4.5, 5}, {8, tiny, 1, 1}, {256, tiny, 1, 1}, {256, 0x1p-60, up(1), 2}, {256, 0x1p-61, 1, 1}, {256, 0x1p-30, 1 + 255*0x1p-30, 2},
		{256, down(1), down(256), 256}, {256, 0.9375, 240.0625, 241}, {256, 1, 256, 256}, {255, 1, 255, 255}, {1, 1, 1, 1}, {1, 0.5, 1, 1}, {2, 1, 2, 2},
		{2, tiny, 1, 1}, {2, 0x1p-53, 1, 1}, {2, up(0x1p-53), up(1), 2}, {2, 0x1p-52, up(1), 2}, {2, down(1), 2, 2}, {2, 1 - 0x1p-52, down(2), 2},
	} {
		params := api.PaceParams{Most: 256, Bytes: 100, Linger: 1, Alpha: c.alpha}
		w := plainNew(params)
		w.Seen(c.n)
		if w.s != c.s {
			t.Errorf("%v behind %d: s is %v, not %v", params, c.n, w.s, c.s)
		}
		p := sees(with(t, params), c.n)
		wants(t, p, c.want)
		goes(t, p, c.want, 0, 0)
		if c.want > 1 {
			waits(t, p, c.want-1, 0, 0, 1)
		}
	}
}

// With Alpha 1 the last batch alone counts, whatever came ahead.
func TestAlphaOne(t *testing.T) {
	p := with(t, lastEdge)
	for n := 1; n <= 256; n++ {
		for _, k := range []int{1, n, 256, n} {
			p.Seen(k)
			wants(t, p, k)
		}
	}
}

func TestMostOne(t *testing.T) {
	for _, alpha := range alphas {
		p := with(t, api.PaceParams{Most: 1, Bytes: 10, Linger: 1, Alpha: alpha})
		for _, n := range []int{1, 1, 2, 0, 1, 256, 1} {
			p.Seen(n)
			wants(t, p, 1)
			goes(t, p, 1, 0, 0)
			goes(t, p, 2, 0, 0)
			waits(t, p, 0, 0, 0, 1)
		}
	}
}

// Behind many batches of one size that size is wanted, and steps that float64 rounds away lead no nearer.
func TestWantBehindMany(t *testing.T) {
	for _, c := range []struct {
		alpha      float64
		full, slim int
	}{
		{1, 8, 1}, {0.5, 8, 1}, {0.75, 8, 1}, {0.25, 8, 2}, {0.1, 8, 2}, {1e-3, 8, 2}, {tiny, 1, 1}, {0x1p-60, 1, 1},
	} {
		p := with(t, api.PaceParams{Most: 8, Bytes: 10, Linger: 1, Alpha: c.alpha})
		for range 100000 {
			p.Seen(8)
		}
		wants(t, p, c.full)
		for range 100000 {
			p.Seen(1)
		}
		wants(t, p, c.slim)
	}
}

// What is asked changes nothing: a plan, and what is wanted, are the same when asked again.
func TestAskingChangesNothing(t *testing.T) {
	p, w := sees(with(t, usual), 8, 3), sees(with(t, usual), 8, 3)
	for range 3 {
		alike(t, "asked again", p, w, usual)
		for _, b := range batches(usual, p.Want()) {
			p.Plan(b.n, b.bytes, b.age)
		}
	}
	p.Seen(8)
	w.Seen(8)
	alike(t, "behind one more", p, w, usual)
}

func TestPlanByRecords(t *testing.T) {
	p := sees(with(t, usual), 8)
	for n := -3; n < 5; n++ {
		waits(t, p, n, 999, 0.125, 0.375)
	}
	for n := 5; n < 12; n++ {
		goes(t, p, n, 0, 0)
		goes(t, p, n, math.MinInt, nan)
	}
	waits(t, p, math.MinInt, 0, 0, 0.5)
	goes(t, p, math.MaxInt, 0, 0)
	sees(p, 8, 8, 8, 8)
	wants(t, p, 8)
	waits(t, p, 7, 0, 0, 0.5)
	goes(t, p, 8, 0, 0)
}

// A batch of no record never has as many as are wanted, but goes by its bytes and its age.
func TestPlanOfNoRecord(t *testing.T) {
	p := with(t, usual)
	for _, n := range []int{0, -1, -8, math.MinInt} {
		waits(t, p, n, 0, 0, 0.5)
		waits(t, p, n, 999, 0.25, 0.25)
		goes(t, p, n, 1000, 0)
		goes(t, p, n, 0, 0.5)
	}
	goes(t, p, 1, 0, 0)
}

func TestPlanByBytes(t *testing.T) {
	for _, bytes := range byteses {
		p := sees(with(t, api.PaceParams{Most: 8, Bytes: bytes, Linger: 0.5, Alpha: 1}), 8)
		for _, n := range []int{-1, 0, 1, 7} {
			waits(t, p, n, bytes-1, 0, 0.5)
			waits(t, p, n, 0, 0, 0.5)
			waits(t, p, n, -bytes, 0, 0.5)
			waits(t, p, n, math.MinInt, 0, 0.5)
			goes(t, p, n, bytes, 0)
			goes(t, p, n, bytes+1, 0)
			goes(t, p, n, math.MaxInt, 0)
		}
	}
}

func TestPlanByAge(t *testing.T) {
	for _, linger := range []float64{tiny, 3 * tiny, 0x1p-1022, up(0x1p-1022), 0.1, 0.5, 1, up(1), 1000, down(1 << 20), 1 << 20} {
		p := sees(with(t, api.PaceParams{Most: 8, Bytes: 10, Linger: linger, Alpha: 1}), 8)
		for _, n := range []int{-1, 0, 1, 7} {
			for _, age := range append(nans(), 0, minus0, -tiny, -1, -linger, -largest, -inf) {
				waits(t, p, n, 9, age, linger)
			}
			waits(t, p, n, 9, down(linger), linger-down(linger))
			for _, age := range []float64{linger, up(linger), 2 * linger, largest, inf} {
				goes(t, p, n, 0, age)
			}
		}
	}
}

// Of an age below Linger the difference is never 0; the wait is at least the least number above 0.
func TestTheLeastWait(t *testing.T) {
	for _, linger := range []float64{tiny, 2 * tiny, 0x1p-1022, up(0x1p-1022), 0x1p-1021} {
		p := with(t, api.PaceParams{Most: 8, Bytes: 10, Linger: linger, Alpha: 1})
		waits(t, p, 0, 0, down(linger), tiny)
		goes(t, p, 0, 0, linger)
	}
	p := with(t, api.PaceParams{Most: 8, Bytes: 10, Linger: 1 << 20, Alpha: 1})
	waits(t, p, 0, 0, tiny, 1<<20)
	waits(t, p, 0, 0, down(1<<20), 0x1p-33)
	p = with(t, api.PaceParams{Most: 8, Bytes: 10, Linger: 1, Alpha: 1})
	waits(t, p, 0, 0, 0x1p-54, 1)
	waits(t, p, 0, 0, 0.1, 0.9)
	waits(t, p, 0, 0, 0.9, 0.09999999999999998)
}

// Once a plan says Go, it says so of more records, more bytes and a greater age.
func TestPlansRise(t *testing.T) {
	r := rand.New(rand.NewSource(20))
	params := append([]api.PaceParams{}, soundParams...)
	for range 20 {
		params = append(params, drawnParams(r))
	}
	for _, params := range params {
		p := sees(with(t, params), drawnSeen(r, params.Most)...)
		var going []batch
		all := batches(params, p.Want())
		for _, b := range all {
			if p.Plan(b.n, b.bytes, b.age).Go {
				going = append(going, b)
			}
		}
		for range 20000 {
			b, c := going[r.Intn(len(going))], all[r.Intn(len(all))]
			if c.n >= b.n && c.bytes >= b.bytes && c.age >= b.age && !p.Plan(c.n, c.bytes, c.age).Go {
				t.Fatalf("what follows: %v, of %v Go, of %v not", params, b, c)
			}
			n, bytes, age := b.n, b.bytes, b.age
			if n < math.MaxInt {
				n++
			}
			if bytes < math.MaxInt {
				bytes++
			}
			if !p.Plan(n, b.bytes, b.age).Go || !p.Plan(b.n, bytes, b.age).Go || !p.Plan(b.n, b.bytes, up(age)).Go {
				t.Fatalf("what follows: %v, of %v Go, of one more not", params, b)
			}
		}
	}
}

// A batch that waits for what its plan says goes then, where the sum is exact.
func TestAWaitIsLongEnough(t *testing.T) {
	r := rand.New(rand.NewSource(21))
	waited := 0
	for i := range 5000 {
		params := drawnParams(r)
		if i%2 == 0 {
			params.Linger = float64(r.Intn(1<<20)) / 64
		}
		p := sees(with(t, params), drawnSeen(r, params.Most)...)
		n, bytes, age := r.Intn(params.Most+1), r.Intn(params.Bytes+1), params.Linger*r.Float64()
		if i%2 == 0 {
			age = math.Floor(age*64) / 64
		}
		plan := p.Plan(n, bytes, age)
		if plan.Go != (plan.Wait == 0) || plan.Wait < 0 || plan.Wait > params.Linger {
			t.Fatalf("P18.3: %v, Plan(%d, %d, %v): %v", params, n, bytes, age, plan)
		}
		if plan.Go || !exact(age, plan.Wait) {
			continue
		}
		waited++
		goes(t, p, n, bytes, age+plan.Wait)
		if plan.Wait > tiny && exact(age, down(plan.Wait)) && p.Plan(n, bytes, age+down(plan.Wait)).Go {
			t.Fatalf("P18.3: %v, Plan(%d, %d, %v): less than %v would do", params, n, bytes, age, plan.Wait)
		}
	}
	if waited < 1000 {
		t.Fatalf("only %d waits were looked at", waited)
	}
}

// A nil pace, and one that New did not make, let every batch go, and again behind what they saw.
func TestNoPace(t *testing.T) {
	for _, p := range []*pace.Pace{nil, {}, new(pace.Pace)} {
		for _, n := range []int{0, 1, 2, 256, 257, -1, math.MinInt, math.MaxInt} {
			p.Seen(n)
			wants(t, p, 1)
			for _, b := range append(batches(usual, 1), batches(api.PaceParams{}, 0)...) {
				same(t, "P18.4: Plan", told(p.Plan(b.n, b.bytes, b.age)), told(api.Plan{Go: true}))
			}
		}
	}
}

func TestTwoPacesAreApart(t *testing.T) {
	a, b, twin := with(t, usual), with(t, usual), with(t, usual)
	sees(a, 8, 8, 8)
	alike(t, "P0.5: the other pace", b, twin, usual)
	sees(b, 2)
	alike(t, "P0.5: the other pace", a, sees(twin, 8, 8, 8), usual)
}

// A pace does not follow the params that it was made of.
func TestParamsAreNotShared(t *testing.T) {
	params := usual
	p := with(t, params)
	params.Most, params.Bytes, params.Linger, params.Alpha = 1, 1, 0, 1
	alike(t, "the params written over", sees(p, 8), sees(with(t, usual), 8), usual)
}
