package series

import (
	"math"
	"math/bits"

	"flume/api"
)

const (
	byteBits = 8
	wordBits = 64 // of a number, and the most of a difference
	sixBits  = 6  // of a count of 0 to 63
)

// sink takes bits and makes bytes of them, each filled from its top bit on.
type sink struct {
	done   []byte
	under  byte // the byte under way: what is not filled yet is 0
	filled int  // how many bits of it are filled; fewer than 8
}

func (s *sink) bit(b uint64) {
	s.filled++
	s.under |= byte(b&1) << (byteBits - s.filled)
	if s.filled == byteBits {
		s.flush()
	}
}

func (s *sink) flush() {
	s.done = append(s.done, s.under)
	s.under, s.filled = 0, 0
}

// put takes the lowest width bits of n, the top one of these first.
func (s *sink) put(n uint64, width int) {
	for i := width - 1; i >= 0; i-- {
		s.bit(n >> i)
	}
}

// putDifference takes what a number's bits and those of the one ahead differ
// in: numbers that are near to each other differ in few bits, so the zeros on
// both sides are only counted.
func (s *sink) putDifference(x uint64) {
	if x == 0 {
		s.bit(0)
		return
	}
	leading, trailing := bits.LeadingZeros64(x), bits.TrailingZeros64(x)
	width := wordBits - leading - trailing
	s.bit(1)
	s.put(uint64(leading), sixBits)
	s.put(uint64(width-1), sixBits)
	s.put(x>>trailing, width)
}

// end gives the bytes, the last one's rest 0.
func (s *sink) end() []byte {
	if s.filled > 0 {
		s.flush()
	}
	return s.done
}

// source gives the bits of bytes, from each byte's top bit on.
type source struct {
	ahead []byte // what no bit was taken of
	under byte   // the byte under way
	left  int    // how many bits of it were not taken yet: its lowest ones
}

// bit is the next bit; false, if there is none.
func (s *source) bit() (uint64, bool) {
	if s.left == 0 {
		if len(s.ahead) == 0 {
			return 0, false
		}
		s.under, s.ahead, s.left = s.ahead[0], s.ahead[1:], byteBits
	}
	s.left--
	return uint64(s.under>>s.left) & 1, true
}

// take is the number that the next width bits are; false, if there are fewer.
func (s *source) take(width int) (uint64, bool) {
	var n uint64
	for range width {
		b, ok := s.bit()
		if !ok {
			return 0, false
		}
		n = n<<1 | b
	}
	return n, true
}

// numbers reads the bits of a list of count numbers, and what rests behind
// them of the last byte.
func (s *source) numbers(count int) ([]float64, api.Errno) {
	xs := make([]float64, count)
	var now uint64
	for i := range xs {
		x, err := s.next(i == 0)
		if err != api.OK {
			return nil, err
		}
		now ^= x
		xs[i] = math.Float64frombits(now)
	}
	if s.rest() != 0 {
		return nil, api.ErrForm
	}
	return xs, api.OK
}

// next is what the next number differs in from the one ahead; the first one
// from 0: so it is the number itself.
func (s *source) next(first bool) (uint64, api.Errno) {
	if !first {
		return s.difference()
	}
	x, ok := s.take(wordBits)
	if !ok {
		return 0, api.ErrShort
	}
	return x, api.OK
}

func (s *source) difference() (uint64, api.Errno) {
	differs, ok := s.bit()
	if !ok {
		return 0, api.ErrShort
	}
	if differs == 0 {
		return 0, api.OK
	}
	sixes, ok := s.take(2 * sixBits)
	if !ok {
		return 0, api.ErrShort
	}
	// All the bits that are told are taken first, also where they are too many
	// for a number: that they are not there comes ahead of a wrong form.
	leading, width := int(sixes>>sixBits), int(sixes%(1<<sixBits))+1
	x, ok := s.take(width)
	if !ok {
		return 0, api.ErrShort
	}
	trailing := wordBits - leading - width
	if trailing < 0 || x>>(width-1) == 0 || x&1 == 0 {
		return 0, api.ErrForm
	}
	return x << trailing, api.OK
}

// rest is those bits of the byte under way that were not taken.
func (s *source) rest() byte {
	return s.under & (1<<s.left - 1)
}
