package frame_test

import (
	"bytes"
	"encoding/binary"
	"math"
	"math/rand"
	"slices"
	"testing"

	"flume/api"
	"flume/frame"
)

// plainRead tells what Read should answer, by the order of errors that P6.3 has.
func plainRead(seed uint32, b []byte) (api.Record, int, uint32, api.Errno) {
	if len(b) < 16 {
		return api.Record{}, 0, 0, api.ErrShort
	}
	length, lsn := binary.LittleEndian.Uint32(b), binary.LittleEndian.Uint64(b[4:])
	if length > 4096 {
		return api.Record{}, 0, 0, api.ErrLong
	}
	if lsn == 0 || lsn > 1<<63-2 {
		return api.Record{}, 0, 0, api.ErrForm
	}
	if len(b)-16 < int(length) {
		return api.Record{}, 0, 0, api.ErrShort
	}
	data := b[16 : 16+length]
	sum := sumOf(four(seed), b[:12], data)
	if !bytes.Equal(b[12:16], markOf(sum)) {
		return api.Record{}, 0, 0, api.ErrSum
	}
	return api.Record{LSN: int64(lsn), Data: data}, 16 + int(length), sum, api.OK
}

// plainReadHead tells what ReadHead should answer, by the order of errors that P6.4 has.
func plainReadHead(b []byte) (api.Head, uint32, api.Errno) {
	if len(b) < 32 {
		return api.Head{}, 0, api.ErrShort
	}
	num, base := binary.LittleEndian.Uint64(b[8:]), binary.LittleEndian.Uint64(b[16:])
	if string(b[:8]) != "FLUMELOG" || num == 0 || num > math.MaxInt64 || base == 0 || base > math.MaxInt64 {
		return api.Head{}, 0, api.ErrForm
	}
	sum := sumOf(b[:28])
	if !bytes.Equal(b[28:32], markOf(sum)) {
		return api.Head{}, 0, api.ErrSum
	}
	return api.Head{Num: int64(num), Base: int64(base), Seed: binary.LittleEndian.Uint32(b[24:])}, sum, api.OK
}

// wantRead holds Read against plainRead, and tells the error; whatever Read takes, Write must give again.
func wantRead(t *testing.T, seed uint32, b []byte) api.Errno {
	t.Helper()
	rec, n, sum, err := frame.Read(seed, b)
	wantRec, wantN, wantSum, wantErr := plainRead(seed, b)
	if rec.LSN != wantRec.LSN || !bytes.Equal(rec.Data, wantRec.Data) || n != wantN || sum != wantSum || err != wantErr {
		t.Fatalf("P6.3: Read(%d, %x): %v, %d, %08x, %d, want %v, %d, %08x, %d", seed, b, rec, n, sum, err, wantRec, wantN, wantSum, wantErr)
	}
	if err == api.OK {
		if again, sumAgain, e := frame.Write(seed, rec.LSN, rec.Data); !bytes.Equal(again, b[:n]) || sumAgain != sum || e != api.OK {
			t.Fatalf("what follows: of %x Write gives %x, %08x, %d", b[:n], again, sumAgain, e)
		}
	}
	return err
}

func wantReadHead(t *testing.T, b []byte) api.Errno {
	t.Helper()
	h, sum, err := frame.ReadHead(b)
	wantH, wantSum, wantErr := plainReadHead(b)
	if h != wantH || sum != wantSum || err != wantErr {
		t.Fatalf("P6.4: ReadHead(%x): %v, %08x, %d, want %v, %08x, %d", b, h, sum, err, wantH, wantSum, wantErr)
	}
	if err == api.OK {
		if again, sumAgain, e := frame.WriteHead(h); !bytes.Equal(again, b[:32]) || sumAgain != sum || e != api.OK {
			t.Fatalf("what follows: of %x WriteHead gives %x, %08x, %d", b[:32], again, sumAgain, e)
		}
	}
	return err
}

func expect(t *testing.T, what string, got, want api.Errno) {
	t.Helper()
	if got != want {
		t.Errorf("%s: %d, want %d", what, got, want)
	}
}

func TestReadExamples(t *testing.T) {
	expect(t, "P6.3: 15 bytes 00", wantRead(t, 0, make([]byte, 15)), api.ErrShort)
	expect(t, "P6.3: 16 bytes 00", wantRead(t, 0, make([]byte, 16)), api.ErrForm)
	expect(t, "P6.3: 16 bytes ff", wantRead(t, 0, bytes.Repeat([]byte{0xff}, 16)), api.ErrLong)
	expect(t, "P6.3: 15 bytes ff", wantRead(t, 0, bytes.Repeat([]byte{0xff}, 15)), api.ErrShort)
	expect(t, "P6.3: nil", wantRead(t, 0, nil), api.ErrShort)
	expect(t, "P6.3: no bytes", wantRead(t, 0, []byte{}), api.ErrShort)
}

func TestReadGivesWhatWasWritten(t *testing.T) {
	r := rand.New(rand.NewSource(62))
	for _, seed := range someSeeds {
		for _, lsn := range goodLSNs {
			for _, n := range goodSizes {
				data := someBytes(r, n)
				b, sum, _ := frame.Write(seed, lsn, data)
				for _, behind := range []int{0, 1, 16, 5000} {
					rec, size, back, err := frame.Read(seed, append(b[:len(b):len(b)], someBytes(r, behind)...))
					if rec.LSN != lsn || !bytes.Equal(rec.Data, data) || size != 16+n || back != sum || err != api.OK {
						t.Fatalf("what follows: Read(%d, a frame of LSN %d and %d bytes, %d behind it): %v, %d, %08x, %d", seed, lsn, n, behind, rec, size, back, err)
					}
				}
			}
		}
	}
}

func TestReadOfFrameBehindFrame(t *testing.T) {
	var all []byte
	seed := uint32(11)
	for i := range 20 {
		b, sum, _ := frame.Write(seed, int64(i+1), bytes.Repeat([]byte{byte(i)}, i*i))
		all, seed = append(all, b...), sum
	}
	seed = 11
	for i := range 20 {
		rec, n, sum, err := frame.Read(seed, all)
		if rec.LSN != int64(i+1) || len(rec.Data) != i*i || err != api.OK {
			t.Fatalf("P6.3: the frame %d of several: %v, %d", i, rec, err)
		}
		all, seed = all[n:], sum
	}
	if len(all) != 0 {
		t.Errorf("P6.3: %d bytes are left behind all frames", len(all))
	}
}

func TestReadCutShort(t *testing.T) {
	for _, n := range []int{0, 1, 5, 100, 4096} {
		b, _, _ := frame.Write(4, 5, bytes.Repeat([]byte{6}, n))
		for cut := range b {
			// What stands behind the cut in the same memory is not handed in.
			expect(t, "P6.3: a frame cut short", wantRead(t, 4, b[:cut]), api.ErrShort)
		}
		expect(t, "P6.3: a whole frame", wantRead(t, 4, b), api.OK)
	}
}

func TestReadOfEachLength(t *testing.T) {
	room := make([]byte, 9000)
	for _, c := range []struct {
		length uint32
		err    api.Errno
	}{
		{0, api.OK}, {1, api.OK}, {4095, api.OK}, {4096, api.OK},
		{4097, api.ErrLong}, {8192, api.ErrLong}, {1 << 16, api.ErrLong}, {1<<16 + 1, api.ErrLong},
		{math.MaxInt32, api.ErrLong}, {1 << 31, api.ErrLong}, {math.MaxUint32 - 15, api.ErrLong}, {math.MaxUint32, api.ErrLong},
	} {
		b, _ := plainFrame(1, c.length, 2, room[:min(c.length, 9000)])
		expect(t, "P6.3: a length", wantRead(t, 1, append(b, 1, 2, 3)), c.err)
	}
}

func TestReadOfEachLSN(t *testing.T) {
	for _, lsn := range goodLSNs {
		b, _ := plainFrame(1, 3, lsn, []byte("abc"))
		expect(t, "P6.3: an LSN that may be", wantRead(t, 1, b), api.OK)
	}
	for _, lsn := range badLSNs {
		b, _ := plainFrame(1, 3, lsn, []byte("abc"))
		expect(t, "P6.3: an LSN that may not be", wantRead(t, 1, b), api.ErrForm)
	}
}

func TestReadTellsTheFirstWrong(t *testing.T) {
	for _, lsn := range badLSNs {
		wrong, _ := plainFrame(1, 4097, lsn, nil)
		wrong[12] ^= 1
		expect(t, "P6.3: all is wrong, too few bytes for a front", wantRead(t, 1, wrong[:15]), api.ErrShort)
		expect(t, "P6.3: length, LSN and mark are wrong, no data", wantRead(t, 1, wrong), api.ErrLong)
		wrong, _ = plainFrame(1, 4096, lsn, nil)
		wrong[12] ^= 1
		expect(t, "P6.3: LSN and mark are wrong, no data", wantRead(t, 1, wrong), api.ErrForm)
	}
	for _, lsn := range goodLSNs {
		wrong, _ := plainFrame(1, 2, lsn, []byte("ab"))
		wrong[12] ^= 1
		expect(t, "P6.3: the mark is wrong, data is cut", wantRead(t, 1, wrong[:17]), api.ErrShort)
		expect(t, "P6.3: the mark is wrong", wantRead(t, 1, wrong), api.ErrSum)
	}
}

func TestReadBehindAnotherSeed(t *testing.T) {
	b, _, _ := frame.Write(100, 7, []byte("abc"))
	for i := range 32 {
		expect(t, "P6.3: another seed", wantRead(t, 100^1<<i, b), api.ErrSum)
	}
	for _, seed := range someSeeds {
		expect(t, "P6.3: another seed", wantRead(t, seed, b), api.ErrSum)
	}
}

func TestReadOfTurnedBits(t *testing.T) {
	b, _, _ := frame.Write(3, 1<<40, []byte("abcdefgh"))
	more := slices.Concat(b, make([]byte, 5000))
	for i := range 8 * len(b) {
		for _, c := range [][]byte{bytes.Clone(b), bytes.Clone(more)} {
			c[i/8] ^= 1 << (i % 8)
			if wantRead(t, 3, c) == api.OK {
				t.Errorf("P6.3: a frame with the bit %d turned was taken", i)
			}
		}
	}
}

// A mark is the mask of a sum, not the sum itself.
func TestReadOfBareSum(t *testing.T) {
	b, sum, _ := frame.Write(3, 4, []byte("ab"))
	copy(b[12:], four(sum))
	expect(t, "P6.3: a bare sum", wantRead(t, 3, b), api.ErrSum)
	h, sum, _ := frame.WriteHead(api.Head{Num: 1, Base: 2, Seed: 3})
	copy(h[28:], four(sum))
	expect(t, "P6.4: a bare sum", wantReadHead(t, h), api.ErrSum)
}

func TestReadOfAnyBytes(t *testing.T) {
	r := rand.New(rand.NewSource(63))
	seen := map[api.Errno]int{}
	for range 20000 {
		seed := r.Uint32() % 4
		length, lsn, room := uint32(r.Intn(40)), r.Int63n(5), r.Intn(60)
		if r.Intn(8) == 0 {
			length, lsn = r.Uint32()>>r.Intn(32), int64(r.Uint64())
		}
		b, _ := plainFrame(seed, length, lsn, someBytes(r, int(min(length, 40))))
		if r.Intn(4) == 0 {
			b[r.Intn(len(b))] ^= byte(r.Intn(256))
		}
		b = append(b, someBytes(r, r.Intn(30))...)
		seen[wantRead(t, seed, b[:min(len(b), room)])]++
	}
	for _, err := range []api.Errno{api.OK, api.ErrShort, api.ErrLong, api.ErrForm, api.ErrSum} {
		if seen[err] < 100 {
			t.Errorf("P6.3: the drawn bytes met %d only %d times", err, seen[err])
		}
	}
}

func TestReadHeadGivesWhatWasWritten(t *testing.T) {
	r := rand.New(rand.NewSource(64))
	for _, num := range goodNumbers {
		for _, base := range goodNumbers {
			for _, seed := range someSeeds {
				h := api.Head{Num: num, Base: base, Seed: seed}
				b, sum, _ := frame.WriteHead(h)
				for _, behind := range []int{0, 1, 32, 5000} {
					got, back, err := frame.ReadHead(append(b[:len(b):len(b)], someBytes(r, behind)...))
					if got != h || back != sum || err != api.OK {
						t.Fatalf("P6.4: the head %v, %d bytes behind it: %v, %08x, %d", h, behind, got, back, err)
					}
				}
			}
		}
	}
}

func TestReadHeadCutShort(t *testing.T) {
	b, _, _ := frame.WriteHead(api.Head{Num: 1, Base: 2, Seed: 3})
	wrong := bytes.Repeat([]byte{0xff}, 32)
	for cut := range b {
		expect(t, "P6.4: a head cut short", wantReadHead(t, b[:cut]), api.ErrShort)
		expect(t, "P6.4: other bytes cut short", wantReadHead(t, wrong[:cut]), api.ErrShort)
	}
	expect(t, "P6.4: nil", wantReadHead(t, nil), api.ErrShort)
	expect(t, "P6.4: a whole head", wantReadHead(t, b), api.OK)
}

func TestReadHeadOfOtherTitles(t *testing.T) {
	h := api.Head{Num: 1, Base: 2, Seed: 3}
	for _, first := range []string{"flumelog", "FLUMELOh", "GOLEMULF", "FLUMELO\x00", "\x00\x00\x00\x00\x00\x00\x00\x00", "\xff\xff\xff\xff\xff\xff\xff\xff"} {
		b, _ := plainHead(first, h)
		expect(t, "P6.4: another title, the mark right", wantReadHead(t, b), api.ErrForm)
		b[28] ^= 1
		expect(t, "P6.4: another title, the mark wrong", wantReadHead(t, b), api.ErrForm)
	}
	b, _, _ := frame.WriteHead(h)
	for i := range 8 {
		for x := range 256 {
			c := bytes.Clone(b)
			c[i] = byte(x)
			if c[i] != b[i] {
				expect(t, "P6.4: one byte of the title is another", wantReadHead(t, c), api.ErrForm)
			}
		}
	}
	frameBytes, _, _ := frame.Write(1, 2, make([]byte, 100))
	expect(t, "P6.4: a frame is no head", wantReadHead(t, frameBytes), api.ErrForm)
}

func TestReadHeadOfEachNumber(t *testing.T) {
	for _, bad := range badNumbers {
		for _, good := range goodNumbers {
			for _, h := range []api.Head{{Num: bad, Base: good, Seed: 1}, {Num: good, Base: bad, Seed: 1}, {Num: bad, Base: bad}} {
				b, _ := plainHead("FLUMELOG", h)
				expect(t, "P6.4: a number that may not be", wantReadHead(t, b), api.ErrForm)
				b[31] ^= 1
				expect(t, "P6.4: a number that may not be, the mark wrong", wantReadHead(t, b), api.ErrForm)
			}
		}
	}
}

func TestReadHeadOfTurnedBits(t *testing.T) {
	b, _, _ := frame.WriteHead(api.Head{Num: 3, Base: 1 << 40, Seed: 0xdeadbeef})
	for i := range 8 * len(b) {
		c := bytes.Clone(b)
		c[i/8] ^= 1 << (i % 8)
		err := wantReadHead(t, c)
		if i >= 8*24 {
			expect(t, "P6.4: a bit of seed or mark is turned", err, api.ErrSum)
		} else if err == api.OK {
			t.Errorf("P6.4: a head with the bit %d turned was taken", i)
		}
	}
}

func TestReadLeavesItsArgument(t *testing.T) {
	b, _, _ := frame.Write(1, 2, []byte("abc"))
	room := append(b, "spare room"...)
	kept := bytes.Clone(room)
	rec, _, _, _ := frame.Read(1, room[:len(b)])
	if !bytes.Equal(room, kept) {
		t.Errorf("P6.5: Read changed what was handed in, or its spare room: %x", room)
	}
	clear(room)
	if string(rec.Data) != "abc" {
		t.Errorf("P6.5: writing into what was handed in changed the record: %q", rec.Data)
	}
	copy(room, kept)
	copy(rec.Data[:cap(rec.Data)], "xxxxxxxxxxxx")
	rec.Data = append(rec.Data, "yyy"...)
	if !bytes.Equal(room, kept) {
		t.Errorf("P6.5: writing into the record changed what was handed in: %x", room)
	}
	if again, _, _, _ := frame.Read(1, room); string(again.Data) != "abc" {
		t.Errorf("P6.5: writing into a record changed the next one: %q", again.Data)
	}
}

func TestReadHeadLeavesItsArgument(t *testing.T) {
	b, _, _ := frame.WriteHead(api.Head{Num: 1, Base: 2, Seed: 3})
	room := append(b, "spare room"...)
	kept := bytes.Clone(room)
	frame.ReadHead(room[:32])
	if !bytes.Equal(room, kept) {
		t.Errorf("P6.5: ReadHead changed what was handed in, or its spare room: %x", room)
	}
}

// A log's front is read frame by frame: what stands behind a frame must not cost anything.
func TestReadIsQuickOfLongBytes(t *testing.T) {
	b, _, _ := frame.Write(1, 2, []byte("abc"))
	long := append(b, make([]byte, 1<<24)...)
	head, _, _ := frame.WriteHead(api.Head{Num: 1, Base: 2, Seed: 3})
	copy(long[64:], head)
	for range 1000 {
		if _, _, _, err := frame.Read(1, long); err != api.OK {
			t.Fatalf("P6.3: a frame ahead of many bytes: %d", err)
		}
		if _, _, err := frame.ReadHead(long[64:]); err != api.OK {
			t.Fatalf("P6.4: a head ahead of many bytes: %d", err)
		}
	}
}
