package real_test

import (
	"math"
	"math/big"
	"math/rand"
	"slices"
	"testing"

	"flume/real"
)

// exact is the sum of finite numbers by another way: a number of 4,000 binary
// places holds it wholly, and is then rounded once.
func exact(xs []float64) float64 {
	all := new(big.Float).SetPrec(4000).SetMode(big.ToNearestEven)
	for _, x := range xs {
		all.Add(all, new(big.Float).SetFloat64(x))
	}
	if all.Sign() == 0 {
		return 0
	}
	sum, _ := all.Float64()
	return sum
}

// checkSum asks for the sum of xs, of xs turned, and of xs with other signs.
func checkSum(t *testing.T, xs []float64, want float64) {
	t.Helper()
	if got := real.Sum(xs...); bits(got) != bits(want) {
		t.Errorf("Sum of %v is %v, %016x, not %v, %016x", xs, got, bits(got), want, bits(want))
	}
	turned := slices.Clone(xs)
	slices.Reverse(turned)
	if got := real.Sum(turned...); bits(got) != bits(want) {
		t.Errorf("Sum of %v is %v, and not so turned", xs, got)
	}
	if want != want || want == 0 {
		return
	}
	for i := range turned {
		turned[i] = -turned[i]
	}
	if got := real.Sum(turned...); bits(got) != bits(-want) {
		t.Errorf("Sum of %v is %v, not %v", turned, got, -want)
	}
}

func TestSumExamples(t *testing.T) {
	for _, c := range []struct {
		xs   []float64
		want float64
	}{
		{nil, 0},
		{[]float64{}, 0},
		{[]float64{1e308, 1e308, -1e308}, 1e308},
		{[]float64{1, 1e100, 1, -1e100}, 2},
		{[]float64{0.1, 0.2}, 0.30000000000000004},
		{[]float64{1, 2, 3, 4}, 10},
		{[]float64{-1, -2}, -3},
		{[]float64{5e-324, 5e-324}, 1e-323},
		{[]float64{from(lastSubnormal), 5e-324}, from(firstNormal)},
		{[]float64{from(firstNormal), -5e-324}, from(lastSubnormal)},
		{[]float64{from(firstNormal), from(firstNormal)}, from(2 << 52)},
		{[]float64{math.MaxFloat64, -math.MaxFloat64, 5e-324}, 5e-324},
	} {
		checkSum(t, c.xs, c.want)
	}
}

func TestSumOfZeros(t *testing.T) {
	for _, c := range []struct {
		xs   []float64
		want uint64
	}{
		{[]float64{negZero()}, minus},
		{[]float64{negZero(), negZero()}, minus},
		{[]float64{negZero(), 0}, 0},
		{[]float64{0}, 0},
		{[]float64{0, 0}, 0},
		{[]float64{1, -1}, 0},
		{[]float64{-1, 1, negZero()}, 0},
		{[]float64{-5e-324, 5e-324}, 0},
		{[]float64{math.MaxFloat64, -math.MaxFloat64}, 0},
	} {
		if got := bits(real.Sum(c.xs...)); got != c.want {
			t.Errorf("Sum of %v has the bits %016x", c.xs, got)
		}
	}
}

func TestSumOfNaNAndInfinities(t *testing.T) {
	inf := math.Inf(1)
	for _, c := range []struct {
		xs   []float64
		want uint64
	}{
		{[]float64{inf}, infinite},
		{[]float64{-inf}, minus | infinite},
		{[]float64{1, inf, inf, -math.MaxFloat64}, infinite},
		{[]float64{-inf, math.MaxFloat64, math.MaxFloat64}, minus | infinite},
		{[]float64{negZero(), -inf}, minus | infinite},
		{[]float64{inf, -inf}, canonical},
		{[]float64{-inf, 1, inf}, canonical},
		{[]float64{from(1<<64 - 1)}, canonical},
		{[]float64{inf, from(infinite | 1)}, canonical},
		{[]float64{from(minus | canonical), -inf}, canonical},
		{[]float64{1, 2, math.NaN()}, canonical},
	} {
		if got := bits(real.Sum(c.xs...)); got != c.want {
			t.Errorf("Sum of %v has the bits %016x", c.xs, got)
		}
	}
}

func TestSumOfOne(t *testing.T) {
	xs, _ := ordered()
	for _, x := range append(xs, anyNumbers(7, 2000)...) {
		if got := real.Sum(x); bits(got) != bits(real.Canon(x)) {
			t.Fatalf("Sum of %016x has the bits %016x", bits(x), bits(got))
		}
	}
}

// The bound is 2^1024 - 2^970: half a step beyond the greatest number.
func TestSumAtTheBound(t *testing.T) {
	most, half := math.MaxFloat64, 0x1p970
	inf := math.Inf(1)
	for _, c := range []struct {
		xs   []float64
		want float64
	}{
		{[]float64{most, half}, inf},
		{[]float64{most, half, -5e-324}, most},
		{[]float64{most, half, 5e-324}, inf},
		{[]float64{most, from(bits(half) - 1)}, most},
		{[]float64{most, half / 2, half / 2}, inf},
		{[]float64{most, half, -1, 1}, inf},
		{[]float64{from(greatestFinite - 1), half}, from(greatestFinite - 1)},
		{[]float64{from(greatestFinite - 1), half, 5e-324}, most},
		{[]float64{from(greatestFinite - 1), half, half}, most},
		{[]float64{from(greatestFinite - 1), half, half, half}, inf},
		{[]float64{0x1p1023, 0x1p1023}, inf},
		{[]float64{0x1p1023, 0x1p1023, -half}, inf},
		{[]float64{0x1p1023, 0x1p1023, -half, -5e-324}, most},
		{[]float64{most, most, most}, inf},
		{[]float64{most, most, most, -most, -most}, most},
	} {
		checkSum(t, c.xs, c.want)
	}
}

// A sum between two numbers, at each exponent: just at the middle it goes to
// the even one, and the least bit off it to the nearer one.
func TestSumBetweenTwoNumbers(t *testing.T) {
	for exp := -1000; exp <= 1000; exp++ {
		one, half := math.Ldexp(1, exp), math.Ldexp(1, exp-53)
		odd := from(bits(one) + 1)
		for _, c := range []struct {
			xs   []float64
			want float64
		}{
			{[]float64{one, half}, one},
			{[]float64{one, half, 5e-324}, odd},
			{[]float64{one, half, -5e-324}, one},
			{[]float64{odd, half}, from(bits(one) + 2)},
			{[]float64{odd, half, -5e-324}, odd},
			{[]float64{from(bits(one) - 1), half / 2}, one},
			{[]float64{from(bits(one) - 1), half / 2, -5e-324}, from(bits(one) - 1)},
			{[]float64{one, -half / 2}, one},
			{[]float64{one, -half / 2, -5e-324}, from(bits(one) - 1)},
		} {
			checkSum(t, c.xs, c.want)
		}
	}
}

func TestSumOfWholeNumbers(t *testing.T) {
	r := rand.New(rand.NewSource(8))
	for range 300 {
		var xs []float64
		all := int64(0)
		for range r.Intn(30) {
			n := r.Int63n(1<<44) - 1<<43
			xs = append(xs, float64(n))
			all += n
		}
		checkSum(t, xs, float64(all))
	}
}

// finite are n finite numbers, of exponents that lie at most spread apart.
func finite(r *rand.Rand, n, spread int) []float64 {
	low := r.Intn(2047 - spread + 1)
	xs := make([]float64, n)
	for i := range xs {
		xs[i] = from(r.Uint64()&^infinite | uint64(low+r.Intn(spread))<<52)
	}
	return xs
}

func TestSumIsExact(t *testing.T) {
	r := rand.New(rand.NewSource(9))
	for i := range 4000 {
		spread := []int{1, 3, 60, 200, 2047}[i%5]
		xs := finite(r, 1+r.Intn(12), spread)
		given := slices.Clone(xs)
		checkSum(t, xs, exact(xs))
		sameBits(t, xs, given)
	}
}

// What is added and taken away again leaves the rest, however small.
func TestSumTakesAway(t *testing.T) {
	r := rand.New(rand.NewSource(10))
	for range 500 {
		xs := finite(r, 6, 2047)
		rest := finite(r, 1, 2047)
		all := slices.Clone(rest)
		for _, x := range xs {
			all = append(all, x, -x)
		}
		r.Shuffle(len(all), func(i, j int) { all[i], all[j] = all[j], all[i] })
		checkSum(t, all, rest[0]+0)
	}
}

func TestSumOfMany(t *testing.T) {
	const n = 1 << 16
	xs := slices.Repeat([]float64{math.MaxFloat64}, n)
	checkSum(t, xs, math.Inf(1))
	checkSum(t, slices.Repeat([]float64{0x1p1023}, n), math.Inf(1))
	xs = append(xs, slices.Repeat([]float64{-math.MaxFloat64}, n-1)...)
	checkSum(t, xs, math.MaxFloat64)
	checkSum(t, slices.Repeat([]float64{5e-324}, n), math.Ldexp(1, -1074+16))
}

// Pieces of 50 bits, all set, close up to one long row of ones: the least
// number more carries from its one end to the other.
func TestSumCarriesFar(t *testing.T) {
	for first := -1074; first < 0; first += 37 {
		xs := []float64{math.Ldexp(1, first)}
		for end := first; end+50 < 1000; {
			xs = append(xs, math.Ldexp(1<<50-1, end))
			end += 50
			checkSum(t, xs, math.Ldexp(1, end))
		}
	}
}

func TestSumLeavesSpareRoom(t *testing.T) {
	room := []float64{1, 2, 3, 4}
	real.Sum(room[:2]...)
	real.Min(room[:2]...)
	real.Max(room[:2]...)
	sameBits(t, room, []float64{1, 2, 3, 4})
}
