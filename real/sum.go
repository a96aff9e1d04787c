package real

import (
	"math"
	"math/bits"
)

// unitWords holds the sizes of 2^31 numbers together: each is below 2^1024,
// that is 2^2098 units, so that 2^2129 units are enough.
const unitWords = 34

// units is a whole number of times 2^-1074, the least size above 0: every
// finite number is such a one. The lowest word comes first.
type units [unitWords]uint64

// Sum is the exact sum of xs, rounded once; NaN and the infinities among xs
// carry through.
func Sum(xs ...float64) float64 {
	if x, ok := unsummed(xs); ok {
		return x
	}
	// Two sums of one sign each: so no borrow runs up and down the words at
	// every change of sign.
	var above, below units
	for _, x := range xs {
		b := math.Float64bits(x)
		if b&signBit == 0 {
			above.add(b)
		} else {
			below.add(b &^ signBit)
		}
	}
	if above.less(&below) {
		below.take(&above)
		return math.Float64frombits(signBit | below.round())
	}
	above.take(&below)
	return math.Float64frombits(above.round())
}

// unsummed is the sum of xs where their classes alone say it.
func unsummed(xs []float64) (float64, bool) {
	var seen [classes]int
	for _, x := range xs {
		seen[Class(x)]++
	}
	up, down := seen[classInf] > 0, seen[classNegInf] > 0
	switch {
	case seen[classNaN] > 0 || up && down:
		return nan(), true
	case up:
		return math.Inf(1), true
	case down:
		return math.Inf(-1), true
	case len(xs) > 0 && seen[classNegZero] == len(xs):
		return math.Float64frombits(signBit), true
	}
	return 0, false
}

// add adds the finite number that has the bits size, the sign's not set.
func (u *units) add(size uint64) {
	shift, digits := size>>fraction, size&(1<<fraction-1)
	if shift > 0 {
		// A normal number has a bit that is not written, and the least normal
		// ones stand as low as the subnormal ones.
		digits |= 1 << fraction
		shift--
	}
	at, off := shift/64, shift%64
	var carry uint64
	u[at], carry = bits.Add64(u[at], digits<<off, 0)
	u[at+1], carry = bits.Add64(u[at+1], digits>>(64-off), carry)
	for i := at + 2; carry > 0 && i < unitWords; i++ {
		u[i], carry = bits.Add64(u[i], 0, carry)
	}
}

// less tells whether u is below v.
func (u *units) less(v *units) bool {
	for i := unitWords - 1; i >= 0; i-- {
		if u[i] != v[i] {
			return u[i] < v[i]
		}
	}
	return false
}

// take takes v, which is at most u, away from u.
func (u *units) take(v *units) {
	var borrow uint64
	for i := range u {
		u[i], borrow = bits.Sub64(u[i], v[i], borrow)
	}
}

// round is the bits of the number next to u, of two that are as near the even
// one.
func (u *units) round() uint64 {
	const kept = fraction + 1
	length := u.length()
	if length <= kept {
		return u[0]
	}
	shift := length - kept
	// The highest bit kept is the one that is not written: it adds one to the
	// exponent, and so does a carry out of the fraction.
	size := uint64(shift)<<fraction + u.from(shift)
	if u.bit(shift-1) && (u.bit(shift) || u.anyBelow(shift-1)) {
		size++
	}
	return min(size, infBits)
}

// length is how many bits u has from its highest one down.
func (u *units) length() int {
	for i := unitWords - 1; i >= 0; i-- {
		if u[i] != 0 {
			return 64*i + bits.Len64(u[i])
		}
	}
	return 0
}

// from is u without its lowest n bits, if that is below 2^64.
func (u *units) from(n int) uint64 {
	at, off := n/64, n%64
	high := u[at] >> off
	if at+1 < unitWords {
		high |= u[at+1] << (64 - off)
	}
	return high
}

func (u *units) bit(n int) bool {
	return u[n/64]>>(n%64)&1 == 1
}

// anyBelow tells whether one of the lowest n bits is set.
func (u *units) anyBelow(n int) bool {
	for _, w := range u[:n/64] {
		if w != 0 {
			return true
		}
	}
	return u[n/64]&(1<<(n%64)-1) != 0
}
