package crc_test

import (
	"bytes"
	"hash/crc32"
	"math"
	"math/rand"
	"testing"

	"flume/crc"
)

// eight makes the eight steps of a byte, by the chapter's words.
func eight(c uint32) uint32 {
	for range 8 {
		if c&1 == 1 {
			c = c>>1 ^ 0x82f63b78
		} else {
			c >>= 1
		}
	}
	return c
}

// plain is the sum of b behind bytes of that sum, by the chapter's words.
func plain(sum uint32, b []byte) uint32 {
	c := sum ^ 0xffffffff
	for _, x := range b {
		c = eight(c ^ uint32(x))
	}
	return c ^ 0xffffffff
}

// someSums are sums at the edges, of which short strings have hardly one, and
// some others.
func someSums() []uint32 {
	sums := []uint32{0, 1, 2, 0x7fffffff, 0x80000000, 0x80000001, 0xfffffffe, 0xffffffff,
		0x82f63b78, 0x1edc6f41, 0xa282ead8, 0x5d7d1528, 0x00007fff, 0xffff8000, 0xdeadbeef}
	r := rand.New(rand.NewSource(2))
	for range 50 {
		sums = append(sums, r.Uint32())
	}
	return sums
}

func someBytes(r *rand.Rand, n int) []byte {
	b := make([]byte, n)
	r.Read(b)
	return b
}

func TestSumExamples(t *testing.T) {
	for _, c := range []struct {
		text string
		want uint32
	}{
		{"", 0},
		{"a", 0xc1d04330},
		{"123456789", 0xe3069283},
	} {
		if got := crc.Sum([]byte(c.text)); got != c.want {
			t.Errorf("Sum(%q) = %08x, want %08x", c.text, got, c.want)
		}
	}
	if got := crc.Sum(nil); got != 0 {
		t.Errorf("Sum(nil) = %08x", got)
	}
}

// The vectors of RFC 3720, B.4.
func TestSumKnownVectors(t *testing.T) {
	up, down := make([]byte, 32), make([]byte, 32)
	for i := range up {
		up[i], down[31-i] = byte(i), byte(i)
	}
	for _, c := range []struct {
		name string
		b    []byte
		want uint32
	}{
		{"zeros", make([]byte, 32), 0x8a9136aa},
		{"ones", bytes.Repeat([]byte{0xff}, 32), 0x62a8ab43},
		{"up", up, 0x46dd794e},
		{"down", down, 0x113fdb5c},
	} {
		if got := crc.Sum(c.b); got != c.want {
			t.Errorf("Sum of %s = %08x, want %08x", c.name, got, c.want)
		}
	}
}

func TestSumOfEachByte(t *testing.T) {
	for x := range 256 {
		b := []byte{byte(x)}
		if got, want := crc.Sum(b), plain(0, b); got != want {
			t.Errorf("Sum of byte %d = %08x, want %08x", x, got, want)
		}
	}
}

func TestSumOfAllLengths(t *testing.T) {
	r := rand.New(rand.NewSource(1))
	library := crc32.MakeTable(crc32.Castagnoli)
	for n := range 600 {
		b := someBytes(r, n)
		got := crc.Sum(b)
		if want := plain(0, b); got != want {
			t.Fatalf("Sum of %d bytes = %08x, want %08x", n, got, want)
		}
		if want := crc32.Checksum(b, library); got != want {
			t.Fatalf("Sum of %d bytes = %08x, the library has %08x", n, got, want)
		}
	}
	long := someBytes(r, 1<<20)
	if got, want := crc.Sum(long), plain(0, long); got != want {
		t.Errorf("Sum of 2^20 bytes = %08x, want %08x", got, want)
	}
}

func TestMoreGoesOn(t *testing.T) {
	r := rand.New(rand.NewSource(3))
	for range 300 {
		a, b := someBytes(r, r.Intn(50)), someBytes(r, r.Intn(500))
		want := plain(0, append(bytes.Clone(a), b...))
		if got := crc.More(crc.Sum(a), b); got != want {
			t.Fatalf("More of %d and %d bytes = %08x, want %08x", len(a), len(b), got, want)
		}
	}
}

func TestMoreOfAnySum(t *testing.T) {
	r := rand.New(rand.NewSource(4))
	for _, sum := range someSums() {
		if got := crc.More(sum, nil); got != sum {
			t.Errorf("More(%08x, nil) = %08x", sum, got)
		}
		if got := crc.More(sum, []byte{}); got != sum {
			t.Errorf("More(%08x, empty) = %08x", sum, got)
		}
		for _, n := range []int{1, 2, 3, 4, 5, 100} {
			b := someBytes(r, n)
			if got, want := crc.More(sum, b), plain(sum, b); got != want {
				t.Errorf("More(%08x, %x) = %08x, want %08x", sum, b, got, want)
			}
		}
	}
}

func TestJoinOfTwoStrings(t *testing.T) {
	r := rand.New(rand.NewSource(5))
	for n := range 300 {
		a, b := someBytes(r, r.Intn(50)), someBytes(r, n)
		want := plain(0, append(bytes.Clone(a), b...))
		if got := crc.Join(crc.Sum(a), crc.Sum(b), n); got != want {
			t.Fatalf("Join of %d and %d bytes = %08x, want %08x", len(a), n, got, want)
		}
	}
}

func TestJoinOfAnySums(t *testing.T) {
	sums := someSums()
	for i, a := range sums {
		b := sums[len(sums)-1-i]
		moved := a
		for n := range 70 {
			if got, want := crc.Join(a, b, n), moved^b; got != want {
				t.Fatalf("Join(%08x, %08x, %d) = %08x, want %08x", a, b, n, got, want)
			}
			moved = eight(moved)
		}
	}
}

func TestJoinAndZerosOfNoBytes(t *testing.T) {
	for _, sum := range someSums() {
		if got := crc.Zeros(sum, 0); got != sum {
			t.Errorf("Zeros(%08x, 0) = %08x", sum, got)
		}
		if got := crc.Join(sum, 0, 0); got != sum {
			t.Errorf("Join(%08x, 0, 0) = %08x", sum, got)
		}
		if got := crc.Join(sum, 0xf00, 0); got != sum^0xf00 {
			t.Errorf("Join(%08x, f00, 0) = %08x", sum, got)
		}
	}
}

func TestJoinAndZerosOfFewerThanNone(t *testing.T) {
	for _, n := range []int{-1, -2, -8, math.MinInt32, -1 << 62, math.MinInt} {
		for _, sum := range someSums() {
			if got := crc.Zeros(sum, n); got != 0 {
				t.Errorf("Zeros(%08x, %d) = %08x", sum, n, got)
			}
			if got := crc.Join(sum, ^sum, n); got != 0 {
				t.Errorf("Join(%08x, %08x, %d) = %08x", sum, ^sum, n, got)
			}
		}
	}
}

func TestZerosIsMoreOfZeros(t *testing.T) {
	a := crc.Sum([]byte("a"))
	if got, want := crc.Zeros(a, 1), crc.Sum([]byte("a\x00")); got != want {
		t.Errorf("Zeros of a and one byte = %08x, want %08x", got, want)
	}
	for _, sum := range append(someSums(), a) {
		for _, n := range []int{0, 1, 2, 3, 4, 7, 8, 9, 255, 256, 257, 4095} {
			if got, want := crc.Zeros(sum, n), plain(sum, make([]byte, n)); got != want {
				t.Errorf("Zeros(%08x, %d) = %08x, want %08x", sum, n, got, want)
			}
		}
	}
	if got, want := crc.Zeros(a, 1<<20+3), plain(a, make([]byte, 1<<20+3)); got != want {
		t.Errorf("Zeros of 2^20 + 3 bytes = %08x, want %08x", got, want)
	}
}

// Behind 2^31 - 1 bits 0 a register is as it was: the polynomial is x + 1
// times one of which x has the order 2^31 - 1. So n counts modulo that.
func TestZerosOfVeryMany(t *testing.T) {
	const order = 1<<31 - 1
	for _, n := range []int{order, 1 << 31, 1 << 40, 1<<61 + 5, 1<<62 - 1, 1 << 62, math.MaxInt} {
		for _, sum := range someSums() {
			if got, want := crc.Zeros(sum, n), crc.Zeros(sum, n%order); got != want {
				t.Errorf("Zeros(%08x, %d) = %08x, want %08x", sum, n, got, want)
			}
			if got, want := crc.Join(sum, 77, n), crc.Join(sum, 77, n%order); got != want {
				t.Errorf("Join(%08x, 77, %d) = %08x, want %08x", sum, n, got, want)
			}
		}
	}
}

func TestManyZerosInParts(t *testing.T) {
	r := rand.New(rand.NewSource(6))
	for range 200 {
		m, n, sum := r.Intn(1<<61), r.Intn(1<<61), r.Uint32()
		if got, want := crc.Zeros(crc.Zeros(sum, m), n), crc.Zeros(sum, m+n); got != want {
			t.Fatalf("Zeros(%08x, %d and %d) = %08x, want %08x", sum, m, n, got, want)
		}
		if got, want := crc.Join(sum, crc.Zeros(0, n), n), crc.Zeros(sum, n); got != want {
			t.Fatalf("Join(%08x, zeros, %d) = %08x, want %08x", sum, n, got, want)
		}
	}
	if got, want := crc.Zeros(crc.Zeros(5, 1<<62-1), 1), crc.Zeros(5, 1<<62); got != want {
		t.Errorf("Zeros(5, 2^62) = %08x, want %08x", want, got)
	}
}

func TestMaskExamples(t *testing.T) {
	for _, c := range []struct{ sum, mask uint32 }{
		{0, 0xa282ead8},
		{0xe3069283, 0xc78ab0e5},
		{1, 0xa284ead8},      // the lowest bit comes to bit 17
		{0x8000, 0xa282ead9}, // bit 15 comes to the lowest
		{0x7fff, 0xa280ead8}, // the low 15 bits come to the top, and the sum wraps
		{0xffffffff, 0xa282ead7},
	} {
		if got := crc.Mask(c.sum); got != c.mask {
			t.Errorf("Mask(%08x) = %08x, want %08x", c.sum, got, c.mask)
		}
		if got := crc.Bare(c.mask); got != c.sum {
			t.Errorf("Bare(%08x) = %08x, want %08x", c.mask, got, c.sum)
		}
	}
}

func TestMaskAndBareUndoEachOther(t *testing.T) {
	for _, s := range someSums() {
		if got := crc.Bare(crc.Mask(s)); got != s {
			t.Errorf("Bare(Mask(%08x)) = %08x", s, got)
		}
		if got := crc.Mask(crc.Bare(s)); got != s {
			t.Errorf("Mask(Bare(%08x)) = %08x", s, got)
		}
	}
}

// Two strings that are unlike within 32 neighbouring bits: the first and the
// last of these differ, those between as they like.
func TestUnlikeInNeighbouringBits(t *testing.T) {
	r := rand.New(rand.NewSource(7))
	for range 2000 {
		b := someBytes(r, 8+r.Intn(40))
		other := bytes.Clone(b)
		wide := 1 + r.Intn(32)
		from := r.Intn(8*len(b) - wide + 1)
		for i := range wide {
			if i == 0 || i == wide-1 || r.Intn(2) == 0 {
				other[(from+i)/8] ^= 1 << ((from + i) % 8)
			}
		}
		if crc.Sum(b) == crc.Sum(other) {
			t.Fatalf("%x and %x have one sum", b, other)
		}
	}
}

func TestBytesAreNotChanged(t *testing.T) {
	room := []byte("123456789 and more")
	b := room[:9]
	crc.Sum(b)
	crc.More(7, b)
	if string(room) != "123456789 and more" {
		t.Errorf("bytes are now %q", room)
	}
	if got := crc.Sum(b); got != 0xe3069283 {
		t.Errorf("Sum a second time = %08x", got)
	}
}
