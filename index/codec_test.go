package index_test

import (
	"bytes"
	"encoding/binary"
	"hash/crc32"
	"math"
	"math/big"
	"math/rand"
	"slices"
	"testing"

	"flume/api"
	"flume/index"
)

// summed lays the sum of b behind it, in new memory.
func summed(b ...byte) []byte {
	sum := crc32.Checksum(b, crc32.MakeTable(crc32.Castagnoli))
	return binary.LittleEndian.AppendUint32(slices.Clone(b), sum)
}

// numbers are varints, one behind the other.
func numbers(list ...uint64) []byte {
	var b []byte
	for _, n := range list {
		b = binary.AppendUvarint(b, n)
	}
	return b
}

// plainBytes are the bytes of an index.
func plainBytes(step int, entries []api.Entry) []byte {
	b := numbers(uint64(step), uint64(len(entries)))
	for i, e := range entries {
		if i > 0 {
			e = api.Entry{LSN: e.LSN - entries[i-1].LSN, Off: e.Off - entries[i-1].Off}
		}
		b = append(b, numbers(uint64(e.LSN), uint64(e.Off))...)
	}
	return summed(b...)
}

// plainVarint takes a varint from b's front, by the words of P1.2.
func plainVarint(b []byte) (n *big.Int, size int, err api.Errno) {
	n = new(big.Int)
	for i := range 10 {
		if i == len(b) {
			return n, 0, api.ErrShort
		}
		group := big.NewInt(int64(b[i] & 0x7f))
		n.Or(n, group.Lsh(group, uint(7*i)))
		if b[i] < 0x80 {
			if i > 0 && b[i] == 0 || n.BitLen() > 64 {
				return n, 0, api.ErrForm
			}
			return n, i + 1, api.OK
		}
	}
	return n, 0, api.ErrForm
}

// plainLoad reads an index by the words of P9.5, with numbers that can't wrap.
func plainLoad(b []byte) (step int, entries []api.Entry, err api.Errno) {
	if len(b) < 4 {
		return 0, nil, api.ErrShort
	}
	b, sum := b[:len(b)-4], b
	if !bytes.Equal(summed(b...), sum) {
		return 0, nil, api.ErrSum
	}
	// next takes a number that, with ahead, is at most most, and itself at least least.
	next := func(ahead, least, most int64) int64 {
		if err != api.OK {
			return 0
		}
		n, size, why := plainVarint(b)
		b = b[size:]
		if err = why; err != api.OK {
			return 0
		}
		all := new(big.Int).Add(n, big.NewInt(ahead))
		if n.Cmp(big.NewInt(least)) < 0 || all.Cmp(big.NewInt(most)) > 0 {
			err = api.ErrForm
			return 0
		}
		return all.Int64()
	}
	step = int(next(0, 1, longStep))
	if err != api.OK {
		return 0, nil, err
	}
	count, size, err := plainVarint(b)
	b = b[size:]
	var ahead api.Entry
	for i := new(big.Int); err == api.OK && i.Cmp(count) < 0; i.Add(i, big.NewInt(1)) {
		least := min(len(entries), 1) * step
		ahead.LSN = next(ahead.LSN, 1, lastLSN)
		ahead.Off = int(next(int64(ahead.Off), int64(least), lastOff))
		entries = append(entries, ahead)
	}
	if err == api.OK && len(b) > 0 {
		err = api.ErrForm
	}
	if err != api.OK {
		return 0, nil, err
	}
	return step, entries, api.OK
}

func wantBytes(t *testing.T, what string, x *index.Index, want []byte) {
	t.Helper()
	if got := x.Bytes(); !bytes.Equal(got, want) {
		t.Errorf("P9.5: %s: Bytes: %x, want %x", what, got, want)
	}
}

func wantLoad(t *testing.T, what string, b []byte, want api.Errno) *index.Index {
	t.Helper()
	x, err := index.Load(b)
	if err != want || (x != nil) != (want == api.OK) {
		t.Errorf("P9.5: %s: Load(%x): %v, %v, want %v", what, b, x, err, want)
	}
	return x
}

// checkLoad holds Load of b against the plain one; what it gives is asked on.
func checkLoad(t *testing.T, what string, b []byte) {
	t.Helper()
	step, entries, err := plainLoad(b)
	x := wantLoad(t, what, b, err)
	if x == nil || err != api.OK {
		return
	}
	wantBytes(t, what, x, b)
	check(t, what, x, &plain{step: step, told: entries})
}

func TestBytes(t *testing.T) {
	x, _ := both(t, 100, frames(5, 32, 332)...)
	wantBytes(t, "two entries", x, summed(100, 2, 5, 32, 1, 0xac, 2))
	x, _ = both(t, 100, frames(5, 32, 80, 132, 140)...)
	wantBytes(t, "the example", x, summed(100, 2, 5, 32, 2, 100))
	x, _ = both(t, 1)
	wantBytes(t, "no frame", x, summed(1, 0))
	x, _ = both(t, longStep)
	wantBytes(t, "the longest step", x, summed(0x80, 0x80, 0x40, 0))
	x, _ = both(t, 1, frames(lastLSN, lastOff)...)
	wantBytes(t, "the last frame", x, summed(1, 1, 0xff, 0xff, 0xff, 0xff, 0xff, 0xff, 0xff, 0xff, 0x7f, 0xff, 0xff, 0xff, 0xff, 7))
	x, _ = both(t, 1, frames(1, 0, lastOff)...)
	wantBytes(t, "the longest way", x, summed(1, 2, 1, 0, 1, 0xff, 0xff, 0xff, 0xff, 7))
}

func TestLoadOfBytes(t *testing.T) {
	r := rand.New(rand.NewSource(95))
	for n := range 60 {
		step := 1 + r.Intn(300)
		x, p := both(t, step, drawnFrames(r, 1+r.Int63n(1<<r.Intn(50)), n, 100)...)
		b := x.Bytes()
		y := wantLoad(t, "what was written", b, api.OK)
		// What was told behind the last entry is not in the bytes.
		q := &plain{step: step, told: p.entries()}
		check(t, "loaded", y, q)
		wantNext(t, "loaded", y, q)
		wantBytes(t, "what was written, behind a Load", x, b)
	}
}

func TestLoadTellsTheLastEntry(t *testing.T) {
	x, _ := both(t, 100, frames(5, 32, 80, 132, 140, 150)...)
	y := wantLoad(t, "the example", x.Bytes(), api.OK)
	wantAdd(t, y, 10, 200, api.ErrOrder)
	wantAdd(t, y, 8, 132, api.ErrOrder)
	wantAdd(t, y, 8, 231, api.OK)
	wantAdd(t, y, 9, 232, api.OK)
	wantEntries(t, "loaded, and told more", y, api.Entry{LSN: 5, Off: 32}, api.Entry{LSN: 7, Off: 132}, api.Entry{LSN: 9, Off: 232})
	y = wantLoad(t, "the example", x.Bytes(), api.OK)
	wantCut(t, y, 8, 0)
	wantCut(t, y, 7, 1)
	wantAdd(t, y, 6, 33, api.OK)
	y = wantLoad(t, "no frame", summed(100, 0), api.OK)
	wantAdd(t, y, 9, 0, api.OK)
}

// TestLoadReasons has each reason, and which one comes first where two hold.
func TestLoadReasons(t *testing.T) {
	ten := bytes.Repeat([]byte{0xff}, 10)
	for _, c := range []struct {
		what string
		b    []byte
		want api.Errno
	}{
		{"no bytes", []byte{}, api.ErrShort},
		{"three bytes", []byte{0, 0, 0}, api.ErrShort},
		{"four bytes that are no sum of none", []byte{1, 0, 0, 0}, api.ErrSum},
		{"four bytes that are", []byte{0, 0, 0, 0}, api.ErrShort},
		{"no count", summed(100), api.ErrShort},
		{"a step that ends within", summed(0x80), api.ErrShort},
		{"a count that ends within", summed(100, 0x80), api.ErrShort},
		{"an entry too few", summed(100, 1), api.ErrShort},
		{"no Off", summed(100, 1, 5), api.ErrShort},
		{"an LSN that ends within", summed(100, 1, 0x85), api.ErrShort},
		{"an Off that ends within", summed(100, 1, 5, 0x80), api.ErrShort},
		{"a second entry too few", summed(100, 2, 5, 32), api.ErrShort},
		{"no second Off", summed(100, 2, 5, 32, 1), api.ErrShort},
		{"a huge count", summed(numbers(100, math.MaxUint64, 5, 32)...), api.ErrShort},
		{"a huge count of none", summed(numbers(100, 1<<63)...), api.ErrShort},
		{"a step of two bytes that are one", summed(0x81, 0, 0), api.ErrForm},
		{"a count not in its form", summed(100, 0x80, 0), api.ErrForm},
		{"a count of ten bytes", summed(append([]byte{100}, ten...)...), api.ErrForm},
		{"an LSN not in its form", summed(100, 1, 0x85, 0, 32), api.ErrForm},
		{"an LSN of ten bytes", summed(append([]byte{100, 1}, ten...)...), api.ErrForm},
		{"an Off not in its form", summed(100, 1, 5, 0xa0, 0x80, 0), api.ErrForm},
		{"a second LSN not in its form", summed(100, 2, 5, 32, 0x81, 0, 100), api.ErrForm},
		{"a second Off not in its form", summed(100, 2, 5, 32, 1, 0xe4, 0), api.ErrForm},
		{"the step 0", summed(0, 0), api.ErrForm},
		{"the step 2^20", summed(numbers(longStep, 0)...), api.OK},
		{"the step 2^20 + 1", summed(numbers(longStep+1, 0)...), api.ErrForm},
		{"the step 2^64 - 1", summed(numbers(math.MaxUint64, 0)...), api.ErrForm},
		{"the step 2^32 + 1", summed(numbers(1<<32+1, 0)...), api.ErrForm},
		{"the LSN 0", summed(100, 1, 0, 32), api.ErrForm},
		{"the LSN 1", summed(100, 1, 1, 32), api.OK},
		{"the LSN 2^63 - 1", summed(numbers(100, 1, lastLSN, 32)...), api.OK},
		{"the LSN 2^63", summed(numbers(100, 1, 1<<63, 32)...), api.ErrForm},
		{"the LSN 2^64 - 1", summed(numbers(100, 1, math.MaxUint64, 32)...), api.ErrForm},
		{"the same LSN", summed(100, 2, 5, 32, 0, 100), api.ErrForm},
		{"a second LSN of 2^63 - 1", summed(numbers(100, 2, 5, 32, lastLSN-5, 100)...), api.OK},
		{"a second LSN of 2^63", summed(numbers(100, 2, 5, 32, lastLSN-4, 100)...), api.ErrForm},
		{"a second LSN that wraps", summed(numbers(100, 2, 5, 32, math.MaxUint64, 100)...), api.ErrForm},
		{"a second LSN that wraps to one more", summed(numbers(100, 2, 5, 32, math.MaxUint64-3, 100)...), api.ErrForm},
		{"an LSN behind the last", summed(numbers(100, 2, lastLSN, 32, 1, 100)...), api.ErrForm},
		{"the Off 0", summed(100, 1, 5, 0), api.OK},
		{"the Off 2^31 - 1", summed(numbers(100, 1, 5, lastOff)...), api.OK},
		{"the Off 2^31", summed(numbers(100, 1, 5, lastOff+1)...), api.ErrForm},
		{"the Off 2^64 - 1", summed(numbers(100, 1, 5, math.MaxUint64)...), api.ErrForm},
		{"a second Off one too near", summed(100, 2, 5, 32, 1, 99), api.ErrForm},
		{"a second Off just step away", summed(100, 2, 5, 32, 1, 100), api.OK},
		{"the same Off", summed(1, 2, 5, 32, 1, 0), api.ErrForm},
		{"a second Off of 2^31 - 1", summed(numbers(100, 2, 5, 32, 1, lastOff-32)...), api.OK},
		{"a second Off of 2^31", summed(numbers(100, 2, 5, 32, 1, lastOff-31)...), api.ErrForm},
		{"a second Off that wraps", summed(numbers(100, 2, 5, 32, 1, math.MaxUint64)...), api.ErrForm},
		{"a second Off that wraps to 132", summed(numbers(100, 2, 5, 1<<30, 1, math.MaxUint64-1<<30+133)...), api.ErrForm},
		{"a byte left over", summed(100, 0, 0), api.ErrForm},
		{"an entry left over", summed(100, 1, 5, 32, 1, 100), api.ErrForm},
		{"a varint cut off left over", summed(100, 0, 0x80), api.ErrForm},

		{"too short and no sum", []byte{1, 2, 3}, api.ErrShort},
		{"no sum and a wrong form", []byte{0, 0, 9, 9, 9, 9}, api.ErrSum},
		{"no sum and too few", []byte{100, 1, 9, 9, 9, 9}, api.ErrSum},
		{"the step 0 and no count", summed(0), api.ErrForm},
		{"a step not in its form and no count", summed(0x80, 0), api.ErrForm},
		{"a step too great and no count", summed(numbers(longStep + 1)...), api.ErrForm},
		{"the LSN 0 and no Off", summed(100, 1, 0), api.ErrForm},
		{"an Off too great and an entry too few", summed(numbers(100, 2, 5, lastOff+1)...), api.ErrForm},
		{"the same LSN and no Off", summed(100, 2, 5, 32, 0), api.ErrForm},
		{"an Off too near and an entry too few", summed(100, 3, 5, 32, 1, 99), api.ErrForm},
		{"an entry too few ahead of a wrong form of none", summed(100, 2, 5, 0xa0), api.ErrShort},
	} {
		checkLoad(t, c.what, c.b)
		wantLoad(t, c.what, c.b, c.want)
	}
}

// someBytes are bytes of indexes of no entry, one and more, with numbers of one byte and of many.
func someBytes(t *testing.T) [][]byte {
	t.Helper()
	var l [][]byte
	for _, told := range [][]api.Entry{
		nil, frames(1, 0), frames(5, 32, 80, 132, 140), frames(300, 0, 1000, 1<<20, 1<<30, lastOff), frames(lastLSN-1, 77, 1<<21),
	} {
		for _, step := range []int{1, 127, 128, longStep} {
			x, _ := both(t, step, told...)
			l = append(l, x.Bytes())
		}
	}
	return l
}

func TestLoadOfBytesCutOff(t *testing.T) {
	for _, b := range someBytes(t) {
		for n := range b {
			want := api.ErrSum
			if n < 4 {
				want = api.ErrShort
			}
			checkLoad(t, "cut off", b[:n])
			wantLoad(t, "cut off", b[:n:n], want)
			if n < len(b)-4 {
				wantLoad(t, "cut off ahead of the sum", summed(b[:n]...), api.ErrShort)
			}
		}
	}
}

func TestLoadOfBytesTurned(t *testing.T) {
	for _, b := range someBytes(t) {
		for at := range b {
			for turn := 1; turn < 256; turn++ {
				torn := slices.Clone(b)
				torn[at] ^= byte(turn)
				wantLoad(t, "a byte turned", torn, api.ErrSum)
				if at < len(b)-4 {
					checkLoad(t, "a byte turned, and the sum fits", summed(torn[:len(b)-4]...))
				}
			}
		}
	}
}

func TestLoadOfBytesLeftOver(t *testing.T) {
	for _, b := range someBytes(t) {
		for c := range 256 {
			wantLoad(t, "a byte behind the sum", append(slices.Clone(b), byte(c)), api.ErrSum)
			wantLoad(t, "a byte ahead of the sum", summed(append(slices.Clone(b[:len(b)-4]), byte(c))...), api.ErrForm)
			wantLoad(t, "a byte ahead of all", append([]byte{byte(c)}, b...), api.ErrSum)
		}
		wantLoad(t, "twice", slices.Concat(b, b), api.ErrSum)
	}
}

func TestLoadOfNumbersTooLong(t *testing.T) {
	// An empty group behind the last byte of each varint says the same number, not in its form.
	for _, b := range someBytes(t) {
		body := b[:len(b)-4]
		for at, c := range body {
			if c >= 0x80 {
				continue
			}
			long := slices.Insert(slices.Clone(body), at+1, 0)
			long[at] |= 0x80
			wantLoad(t, "a varint too long", summed(long...), api.ErrForm)
		}
	}
}

func TestLoadOfDrawnBytes(t *testing.T) {
	r := rand.New(rand.NewSource(96))
	for range 20000 {
		step := 1 + r.Intn(4)
		list := []uint64{uint64(step), uint64(r.Intn(5))}
		for range r.Intn(9) {
			list = append(list, uint64(r.Intn(8)))
		}
		if r.Intn(3) == 0 {
			list[r.Intn(len(list))] = 1 << r.Intn(64)
		}
		checkLoad(t, "drawn numbers", summed(numbers(list...)...))
		b := make([]byte, r.Intn(12))
		r.Read(b)
		checkLoad(t, "drawn bytes", b)
		checkLoad(t, "drawn bytes and their sum", summed(b...))
	}
}

func TestBytesAreNewMemory(t *testing.T) {
	x, p := both(t, 10, frames(1, 0, 10, 20)...)
	want := plainBytes(10, p.entries())
	b, other := x.Bytes(), x.Bytes()
	b = b[:cap(b)]
	for i := range b {
		b[i] = 0xee
	}
	check(t, "its bytes written over", x, p)
	if !bytes.Equal(other, want) {
		t.Errorf("P9.6: bytes written over changed others: %x", other)
	}
	for _, none := range []*index.Index{nil, {}} {
		b, other := none.Bytes(), none.Bytes()
		clear(b)
		if !bytes.Equal(other, summed(1, 0)) {
			t.Errorf("P9.6: bytes written over changed others: %x", other)
		}
		wantBytes(t, "behind bytes written over", none, summed(1, 0))
	}
}

func TestLoadKeepsNothing(t *testing.T) {
	_, p := both(t, 10, frames(1, 0, 10, 20)...)
	written := plainBytes(10, p.entries())
	room := append(slices.Clone(written), 1, 2, 3, 4, 5, 6, 7, 8)
	before := slices.Clone(room)
	b := room[:len(written)]
	x := wantLoad(t, "with spare room", b, api.OK)
	if !bytes.Equal(room, before) {
		t.Errorf("P0.3: Load changed its bytes or their spare room: %x", room)
	}
	y := wantLoad(t, "again", b, api.OK)
	for i := range room {
		room[i] = 0xee
	}
	check(t, "the bytes written over", x, p)
	wantCut(t, x, 0, 3)
	check(t, "the other cut", y, p)
	for _, wrong := range [][]byte{written[:3], written[:5], summed(0, 0), summed(100, 0, 0)} {
		before := slices.Clone(wrong)
		index.Load(wrong)
		if !bytes.Equal(wrong, before) {
			t.Errorf("P0.3: Load changed %x to %x", before, wrong)
		}
	}
}
