package frame_test

import (
	"bytes"
	"encoding/binary"
	"hash/crc32"
	"math"
	"math/bits"
	"math/rand"
	"slices"
	"testing"

	"flume/api"
	"flume/frame"
)

// What frames and heads are is worked out here by the library and the document's words, not by the program's own layers.

func four(n uint32) []byte { return binary.LittleEndian.AppendUint32(nil, n) }

func eight(n int64) []byte { return binary.LittleEndian.AppendUint64(nil, uint64(n)) }

func sumOf(pieces ...[]byte) uint32 {
	return crc32.Checksum(slices.Concat(pieces...), crc32.MakeTable(crc32.Castagnoli))
}

func markOf(sum uint32) []byte {
	return four(bits.RotateLeft32(sum, -15) + 0xa282ead8)
}

// plainFrame is the frame that has these fields, whether they may be or not.
func plainFrame(seed, length uint32, lsn int64, data []byte) ([]byte, uint32) {
	sum := sumOf(four(seed), four(length), eight(lsn), data)
	return slices.Concat(four(length), eight(lsn), markOf(sum), data), sum
}

// plainHead is the head that has these fields, whether they may be or not.
func plainHead(first string, h api.Head) ([]byte, uint32) {
	ahead := slices.Concat([]byte(first), eight(h.Num), eight(h.Base), four(h.Seed))
	sum := sumOf(ahead)
	return slices.Concat(ahead, markOf(sum)), sum
}

func someBytes(r *rand.Rand, n int) []byte {
	b := make([]byte, n)
	r.Read(b)
	return b
}

var (
	someSeeds   = []uint32{0, 1, 7, 1 << 31, math.MaxUint32}
	goodLSNs    = []int64{1, 2, 255, 256, 1 << 40, math.MaxInt64 - 2, math.MaxInt64 - 1}
	badLSNs     = []int64{0, -1, -2, math.MinInt64, math.MinInt64 + 1, math.MaxInt64}
	goodNumbers = []int64{1, 2, 300, math.MaxInt64 - 1, math.MaxInt64}
	badNumbers  = []int64{0, -1, math.MinInt64, math.MinInt64 + 1}
	goodSizes   = []int{0, 1, 2, 15, 16, 17, 255, 256, 4095, 4096}
)

func TestSize(t *testing.T) {
	for n, want := range map[int]int{
		0: 16, 1: 17, 4095: 4111, 4096: 4112,
		4097: 0, 4098: 0, -1: 0, -15: 0, -16: 0, -17: 0, math.MaxInt: 0, math.MaxInt - 15: 0, math.MinInt: 0,
	} {
		if got := frame.Size(n); got != want {
			t.Errorf("P6.1: Size(%d): %d, want %d", n, got, want)
		}
	}
	for _, n := range goodSizes {
		b, _, _ := frame.Write(3, 4, make([]byte, n))
		if len(b) != frame.Size(n) {
			t.Errorf("P6.1: Size(%d): %d, the frame has %d bytes", n, frame.Size(n), len(b))
		}
	}
}

func TestWriteExamples(t *testing.T) {
	b, sum, err := frame.Write(0, 1, nil)
	if len(b) != 16 || !bytes.Equal(b[:12], []byte{0, 0, 0, 0, 1, 0, 0, 0, 0, 0, 0, 0}) || err != api.OK {
		t.Errorf("P6.2: Write(0, 1, none): %x, %d", b, err)
	}
	if want := sumOf([]byte{0, 0, 0, 0, 0, 0, 0, 0, 1, 0, 0, 0, 0, 0, 0, 0}); sum != want {
		t.Errorf("P6.2: Write(0, 1, none): the sum %08x, want %08x", sum, want)
	}
	b, _, _ = frame.Write(0x04030201, 0x0807060504030201, []byte("ab"))
	if !bytes.Equal(b[:12], []byte{2, 0, 0, 0, 1, 2, 3, 4, 5, 6, 7, 8}) || string(b[16:]) != "ab" {
		t.Errorf("P6.2: length and LSN stand the lowest byte first, data behind the mark: %x", b)
	}
}

func TestWrite(t *testing.T) {
	r := rand.New(rand.NewSource(61))
	for _, seed := range someSeeds {
		for _, lsn := range goodLSNs {
			for _, n := range goodSizes {
				data := someBytes(r, n)
				want, wantSum := plainFrame(seed, uint32(n), lsn, data)
				b, sum, err := frame.Write(seed, lsn, data)
				if !bytes.Equal(b, want) || sum != wantSum || err != api.OK {
					t.Fatalf("P6.2: Write(%d, %d, %d bytes): %x, %08x, %d, want %x, %08x", seed, lsn, n, b, sum, err, want, wantSum)
				}
			}
		}
	}
}

func TestWriteRefuses(t *testing.T) {
	refuse := func(seed uint32, lsn int64, n int, want api.Errno) {
		t.Helper()
		if b, sum, err := frame.Write(seed, lsn, make([]byte, n)); len(b) != 0 || sum != 0 || err != want {
			t.Errorf("P6.2: Write(%d, %d, %d bytes): %x, %d, %d, want %d", seed, lsn, n, b, sum, err, want)
		}
	}
	for _, seed := range someSeeds {
		for _, lsn := range badLSNs {
			for _, n := range []int{0, 1, 4096, 4097, 1 << 16} {
				refuse(seed, lsn, n, api.ErrArg)
			}
		}
		for _, lsn := range goodLSNs {
			for _, n := range []int{4097, 4098, 1 << 16, 1<<16 + 1} {
				refuse(seed, lsn, n, api.ErrLong)
			}
		}
	}
}

func TestWriteOfNilIsOfNone(t *testing.T) {
	a, sumA, _ := frame.Write(9, 8, nil)
	b, sumB, _ := frame.Write(9, 8, []byte{})
	if !bytes.Equal(a, b) || sumA != sumB {
		t.Errorf("P0.4: no data: %x, %x", a, b)
	}
}

// A frame's sum takes the seed in: so a frame is chained to the one ahead of it.
func TestFramesAreChained(t *testing.T) {
	_, first, _ := frame.Write(0, 1, []byte("a"))
	_, other, _ := frame.Write(0, 1, []byte("b"))
	b, sum, _ := frame.Write(first, 2, []byte("c"))
	if _, _, got, err := frame.Read(first, b); got != sum || err != api.OK {
		t.Errorf("P6.3: behind its own frame: %08x, %d", got, err)
	}
	if _, _, _, err := frame.Read(other, b); err != api.ErrSum {
		t.Errorf("P6.3: behind another frame: %d", err)
	}
}

func TestWriteHead(t *testing.T) {
	for _, num := range goodNumbers {
		for _, base := range goodNumbers {
			for _, seed := range someSeeds {
				h := api.Head{Num: num, Base: base, Seed: seed}
				want, wantSum := plainHead("FLUMELOG", h)
				b, sum, err := frame.WriteHead(h)
				if !bytes.Equal(b, want) || len(b) != 32 || sum != wantSum || err != api.OK {
					t.Errorf("P6.4: WriteHead(%v): %x, %08x, %d, want %x, %08x", h, b, sum, err, want, wantSum)
				}
			}
		}
	}
}

func TestWriteHeadRefuses(t *testing.T) {
	refuse := func(h api.Head) {
		t.Helper()
		if b, sum, err := frame.WriteHead(h); len(b) != 0 || sum != 0 || err != api.ErrArg {
			t.Errorf("P6.4: WriteHead(%v): %x, %d, %d", h, b, sum, err)
		}
	}
	refuse(api.Head{})
	for _, bad := range badNumbers {
		for _, good := range goodNumbers {
			refuse(api.Head{Num: bad, Base: good, Seed: 5})
			refuse(api.Head{Num: good, Base: bad, Seed: 5})
		}
		refuse(api.Head{Num: bad, Base: bad})
	}
}

func TestWriteLeavesItsArgument(t *testing.T) {
	room := []byte("abcdefgh")
	b, sum, _ := frame.Write(1, 2, room[:3])
	if string(room) != "abcdefgh" {
		t.Errorf("P6.5: Write changed what was handed in, or its spare room: %q", room)
	}
	kept := bytes.Clone(b)
	copy(room, "xxxxxxxx")
	if !bytes.Equal(b, kept) {
		t.Errorf("P6.5: writing into what was handed in changed the frame: %x", b)
	}
	clear(b[:cap(b)])
	if string(room) != "xxxxxxxx" {
		t.Errorf("P6.5: writing into the frame changed what was handed in: %q", room)
	}
	if again, sumAgain, _ := frame.Write(1, 2, []byte("abc")); !bytes.Equal(again, kept) || sumAgain != sum {
		t.Errorf("P6.5: writing into a frame changed the next one: %x, want %x", again, kept)
	}
}

func TestWriteHeadIsNewMemory(t *testing.T) {
	h := api.Head{Num: 1, Base: 2, Seed: 3}
	b, _, _ := frame.WriteHead(h)
	kept := bytes.Clone(b)
	clear(b[:cap(b)])
	if again, _, _ := frame.WriteHead(h); !bytes.Equal(again, kept) {
		t.Errorf("P6.5: writing into a head changed the next one: %x, want %x", again, kept)
	}
}
