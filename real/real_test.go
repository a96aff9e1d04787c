package real_test

import (
	"cmp"
	"math"
	"math/rand"
	"slices"
	"testing"

	"flume/real"
)

const canonical = 0x7ff8000000000001

// Edges of the finite sizes, by bits.
const (
	leastSize      = 0x0000000000000001
	lastSubnormal  = 0x000fffffffffffff
	firstNormal    = 0x0010000000000000
	greatestFinite = 0x7fefffffffffffff
	infinite       = 0x7ff0000000000000
	minus          = 1 << 63
)

func bits(x float64) uint64 { return math.Float64bits(x) }

func from(b uint64) float64 { return math.Float64frombits(b) }

func negZero() float64 { return from(minus) }

// odds are NaNs of all kinds: quiet and signalling, of both signs.
func odds() []float64 {
	return []float64{from(canonical), from(infinite | 1), from(0x7ff7ffffffffffff), from(0x7ff8000000000000),
		from(1<<63 - 1), from(minus | infinite | 1), from(minus | canonical), from(1<<64 - 1), math.NaN()}
}

// rising is numbers of all classes but NaN, as the order has them.
func rising() []float64 {
	sizes := []uint64{0, leastSize, 2, lastSubnormal - 1, lastSubnormal, firstNormal, firstNormal + 1,
		bits(0.1), bits(1) - 1, bits(1), bits(1) + 1, bits(1 << 53), greatestFinite - 1, greatestFinite, infinite}
	var xs []float64
	for _, s := range sizes {
		xs = append(xs, from(s))
	}
	slices.Reverse(sizes)
	var below []float64
	for _, s := range sizes {
		below = append(below, from(minus|s))
	}
	return append(below, xs...)
}

// anyNumbers are n numbers of any bits, NaNs and subnormal ones oftener than
// chance has them.
func anyNumbers(seed int64, n int) []float64 {
	r := rand.New(rand.NewSource(seed))
	xs := make([]float64, n)
	for i := range xs {
		b := r.Uint64()
		switch r.Intn(8) {
		case 0:
			b &^= infinite
		case 1:
			b |= infinite
		case 2:
			b &= minus | infinite
		}
		xs[i] = from(b)
	}
	return xs
}

// ordered are numbers with their places in the order, the NaNs all in one.
func ordered() ([]float64, []int) {
	xs := rising()
	places := make([]int, len(xs))
	for i := range places {
		places[i] = i
	}
	last := len(xs)
	for _, x := range odds() {
		xs, places = append(xs, x), append(places, last)
	}
	return xs, places
}

func TestClass(t *testing.T) {
	for _, c := range []struct {
		bits uint64
		want int
	}{
		{minus | infinite, 2},
		{minus | greatestFinite, 3}, {bits(-1), 3}, {minus | firstNormal, 3},
		{minus | lastSubnormal, 4}, {minus | leastSize, 4},
		{minus, 5}, {0, 6},
		{leastSize, 7}, {lastSubnormal, 7},
		{firstNormal, 8}, {bits(1), 8}, {greatestFinite, 8},
		{infinite, 9},
	} {
		if got := real.Class(from(c.bits)); got != c.want {
			t.Errorf("Class of the bits %016x is %d, not %d", c.bits, got, c.want)
		}
	}
	for _, x := range odds() {
		if got := real.Class(x); got != 1 {
			t.Errorf("Class of the NaN %016x is %d", bits(x), got)
		}
	}
}

func TestCanon(t *testing.T) {
	for _, x := range odds() {
		if got := real.Canon(x); bits(got) != canonical {
			t.Errorf("Canon of the NaN %016x has the bits %016x", bits(x), bits(got))
		}
	}
	for _, x := range append(rising(), anyNumbers(1, 1000)...) {
		if got := real.Canon(x); x == x && bits(got) != bits(x) {
			t.Errorf("Canon of %016x has the bits %016x", bits(x), bits(got))
		}
	}
}

func TestCompareGoesByTheOrder(t *testing.T) {
	xs, places := ordered()
	for i, a := range xs {
		for j, b := range xs {
			want := cmp.Compare(places[i], places[j])
			if got := real.Compare(a, b); got != want {
				t.Errorf("Compare(%016x, %016x) is %d, not %d", bits(a), bits(b), got, want)
			}
			if got := real.Same(a, b); got != (want == 0) {
				t.Errorf("Same(%016x, %016x) is %v", bits(a), bits(b), got)
			}
		}
	}
}

func TestCompareExamples(t *testing.T) {
	if got := real.Compare(negZero(), 0); got != -1 {
		t.Errorf("Compare(-0, +0) is %d", got)
	}
	if got := real.Compare(math.Inf(1), math.NaN()); got != -1 {
		t.Errorf("Compare(+Inf, NaN) is %d", got)
	}
	if got := real.Compare(math.NaN(), from(1<<64-1)); got != 0 {
		t.Errorf("Compare(NaN, NaN) is %d", got)
	}
}

// Where no zero and no NaN is among two numbers, the order is that of <.
func TestCompareGoesAsLess(t *testing.T) {
	xs := anyNumbers(2, 3000)
	for i, a := range xs[1:] {
		b := xs[i]
		if a != a || b != b || a == 0 && b == 0 {
			continue
		}
		if got := real.Compare(a, b); got != cmp.Compare(a, b) || got != -real.Compare(b, a) {
			t.Fatalf("Compare(%v, %v) is %d", a, b, got)
		}
	}
}

func TestKeyGoesUpWithTheOrder(t *testing.T) {
	xs, places := ordered()
	for i, a := range xs {
		for j, b := range xs {
			if got := real.Key(a) < real.Key(b); got != (places[i] < places[j]) {
				t.Errorf("Key(%016x) < Key(%016x) is %v", bits(a), bits(b), got)
			}
		}
	}
	r := anyNumbers(3, 2000)
	for i, a := range r[1:] {
		if got := cmp.Compare(real.Key(a), real.Key(r[i])); got != real.Compare(a, r[i]) {
			t.Fatalf("the keys of %016x and %016x compare as %d", bits(a), bits(r[i]), got)
		}
	}
}

func TestKeyExamples(t *testing.T) {
	for _, c := range []struct{ bits, want uint64 }{
		{minus, 1<<63 - 1}, {0, 1 << 63}, {infinite, 0xfff0000000000000},
		{minus | infinite, 0x000fffffffffffff}, {bits(1), 0xbff0000000000000}, {bits(-1), 0x400fffffffffffff},
		{leastSize, 1<<63 + 1}, {minus | leastSize, 1<<63 - 2},
	} {
		if got := real.Key(from(c.bits)); got != c.want {
			t.Errorf("Key of the bits %016x is %016x, not %016x", c.bits, got, c.want)
		}
	}
	for _, x := range odds() {
		if got := real.Key(x); got != 1<<64-1 {
			t.Errorf("Key of the NaN %016x is %016x", bits(x), got)
		}
	}
}

func TestUnkeyTurnsKeyRound(t *testing.T) {
	xs, _ := ordered()
	for _, x := range append(xs, anyNumbers(4, 3000)...) {
		got, ok := real.Unkey(real.Key(x))
		if !ok || bits(got) != bits(real.Canon(x)) {
			t.Fatalf("Unkey of the key of %016x is %016x, %v", bits(x), bits(got), ok)
		}
	}
	r := rand.New(rand.NewSource(5))
	for range 3000 {
		k := r.Uint64()
		if x, ok := real.Unkey(k); ok && real.Key(x) != k {
			t.Fatalf("Unkey(%016x) is %v, whose key is %016x", k, x, real.Key(x))
		}
	}
}

func TestUnkeyOfKeysThatNoNumberHas(t *testing.T) {
	first, last := uint64(0x000fffffffffffff), uint64(0xfff0000000000000)
	for _, k := range []uint64{0, 1, 0x0007ffffffffffff, first - 1, last + 1, last + 2, 0xfff8000000000001, 1<<64 - 3, 1<<64 - 2} {
		if x, ok := real.Unkey(k); ok || bits(x) != 0 {
			t.Errorf("Unkey(%016x) is %016x, %v", k, bits(x), ok)
		}
	}
	for k, want := range map[uint64]uint64{first: minus | infinite, first + 1: minus | greatestFinite,
		last - 1: greatestFinite, last: infinite, 1<<64 - 1: canonical, 1<<63 - 1: minus, 1 << 63: 0} {
		if x, ok := real.Unkey(k); !ok || bits(x) != want {
			t.Errorf("Unkey(%016x) is %016x, %v, not %016x", k, bits(x), ok, want)
		}
	}
}

func TestNext(t *testing.T) {
	for _, c := range []struct{ bits, want uint64 }{
		{minus | infinite, minus | greatestFinite},
		{minus | firstNormal, minus | lastSubnormal},
		{minus | leastSize, minus}, {minus, 0}, {0, leastSize},
		{lastSubnormal, firstNormal},
		{bits(-1), bits(-1) - 1}, {bits(1), bits(1) + 1}, {bits(2) - 1, bits(2)},
		{greatestFinite, infinite}, {infinite, canonical},
	} {
		if got := bits(real.Next(from(c.bits))); got != c.want {
			t.Errorf("Next of the bits %016x is %016x, not %016x", c.bits, got, c.want)
		}
	}
	for _, x := range odds() {
		if got := bits(real.Next(x)); got != canonical {
			t.Errorf("Next of the NaN %016x is %016x", bits(x), got)
		}
	}
}

// math.Nextafter steps over one of the zeros; elsewhere it goes as Next.
func TestNextLeavesNoneOut(t *testing.T) {
	for _, x := range anyNumbers(6, 3000) {
		if x != x || math.IsInf(x, 1) || x == 0 || x == -5e-324 {
			continue
		}
		if got := real.Next(x); bits(got) != bits(math.Nextafter(x, math.Inf(1))) {
			t.Fatalf("Next(%v) is %v", x, got)
		}
	}
}

func TestApart(t *testing.T) {
	for _, c := range []struct{ a, b, want uint64 }{
		{minus, 0, 1}, {0, 0, 0}, {minus, minus, 0}, {infinite, infinite, 0},
		{minus | leastSize, leastSize, 3}, {0, leastSize, 1}, {0, infinite, infinite},
		{greatestFinite, infinite, 1}, {minus | infinite, minus | greatestFinite, 1},
		{minus | infinite, infinite, 2*infinite + 1}, {bits(1), bits(2), 1 << 52},
		{bits(-1), bits(1), 2*0x3ff0000000000000 + 1},
	} {
		for _, p := range [][2]uint64{{c.a, c.b}, {c.b, c.a}} {
			if n, ok := real.Apart(from(p[0]), from(p[1])); n != c.want || !ok {
				t.Errorf("Apart of the bits %016x, %016x is %d, %v, not %d", p[0], p[1], n, ok, c.want)
			}
		}
	}
	for _, x := range odds() {
		for _, p := range [][2]float64{{x, 1}, {1, x}, {x, math.Inf(1)}, {x, x}} {
			if n, ok := real.Apart(p[0], p[1]); n != 0 || ok {
				t.Errorf("Apart(%v, %v) is %d, %v", p[0], p[1], n, ok)
			}
		}
	}
}

func TestApartCountsNext(t *testing.T) {
	for _, start := range []uint64{minus | 5, minus | infinite, minus | (firstNormal + 3), lastSubnormal - 4, bits(-1), bits(1) - 7} {
		x := from(start)
		for n := range uint64(20) {
			if got, ok := real.Apart(x, from(start)); got != n || !ok {
				t.Errorf("%d times Next behind %016x Apart is %d, %v", n, start, got, ok)
			}
			x = real.Next(x)
		}
	}
}

func TestMinMax(t *testing.T) {
	odd := from(minus | infinite | 7)
	inf := math.Inf(1)
	for _, c := range []struct {
		xs       []float64
		min, max uint64
	}{
		{[]float64{odd, 0, negZero()}, minus, 0},
		{[]float64{negZero(), 0, odd}, minus, 0},
		{[]float64{odd}, canonical, canonical},
		{[]float64{odd, math.NaN(), odd}, canonical, canonical},
		{[]float64{3, -2, odd, 5, 4}, bits(-2), bits(5)},
		{[]float64{-3, -2, -5}, bits(-5), bits(-2)},
		{[]float64{inf, odd}, infinite, infinite},
		{[]float64{odd, -inf}, minus | infinite, minus | infinite},
		{[]float64{1, inf, -inf}, minus | infinite, infinite},
		{[]float64{from(leastSize), 0}, 0, leastSize},
		{[]float64{negZero()}, minus, minus},
	} {
		if x, ok := real.Min(c.xs...); bits(x) != c.min || !ok {
			t.Errorf("Min of %v is %v, %v", c.xs, x, ok)
		}
		if x, ok := real.Max(c.xs...); bits(x) != c.max || !ok {
			t.Errorf("Max of %v is %v, %v", c.xs, x, ok)
		}
	}
}

func TestMinMaxOfNone(t *testing.T) {
	for _, xs := range [][]float64{nil, {}} {
		if x, ok := real.Min(xs...); bits(x) != 0 || ok {
			t.Errorf("Min of none is %v, %v", x, ok)
		}
		if x, ok := real.Max(xs...); bits(x) != 0 || ok {
			t.Errorf("Max of none is %v, %v", x, ok)
		}
	}
}

func TestMinMaxOfAny(t *testing.T) {
	for seed := range int64(200) {
		xs := anyNumbers(seed, 1+int(seed)%9)
		given := slices.Clone(xs)
		least, _ := real.Min(xs...)
		most, _ := real.Max(xs...)
		sorted := slices.DeleteFunc(slices.Clone(xs), math.IsNaN)
		slices.SortFunc(sorted, real.Compare)
		if len(sorted) == 0 {
			sorted = []float64{from(canonical)}
		}
		if bits(least) != bits(sorted[0]) || bits(most) != bits(sorted[len(sorted)-1]) {
			t.Errorf("of %v Min is %v and Max is %v", xs, least, most)
		}
		sameBits(t, xs, given)
	}
}

// sameBits tells whether a list has been left as it was.
func sameBits(t *testing.T, xs, given []float64) {
	t.Helper()
	for i := range given {
		if bits(xs[i]) != bits(given[i]) {
			t.Fatalf("the list handed in was changed: %v was %v", xs, given)
		}
	}
}
