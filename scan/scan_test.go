package scan_test

import (
	"bytes"
	"encoding/binary"
	"hash/crc32"
	"math"
	"math/bits"
	"math/rand"
	"slices"
	"testing"

	"flume/api"
	"flume/scan"
)

// What frames and scans are is worked out here by the library and the document's words, not by the program's own layers.

const lastLSN = math.MaxInt64 - 1

func four(n uint32) []byte { return binary.LittleEndian.AppendUint32(nil, n) }

func eight(n int64) []byte { return binary.LittleEndian.AppendUint64(nil, uint64(n)) }

func sumOf(pieces ...[]byte) uint32 {
	return crc32.Checksum(slices.Concat(pieces...), crc32.MakeTable(crc32.Castagnoli))
}

func markOf(sum uint32) []byte {
	return four(bits.RotateLeft32(sum, -15) + 0xa282ead8)
}

// plainFrame is the frame that has these fields, whether they may be or not.
func plainFrame(seed, length uint32, lsn int64, data []byte) ([]byte, uint32) {
	sum := sumOf(four(seed), four(length), eight(lsn), data)
	return slices.Concat(four(length), eight(lsn), markOf(sum), data), sum
}

// chain is frames one behind the other: their bytes, the places where they begin, and the sums behind which they stand; one more of each for what comes next.
type chain struct {
	bytes []byte
	at    []int
	seeds []uint32
}

func chainOf(base int64, seed uint32, datas ...[]byte) chain {
	c := chain{at: []int{0}, seeds: []uint32{seed}}
	for i, d := range datas {
		f, sum := plainFrame(seed, uint32(len(d)), base+int64(i), d)
		seed = sum
		c.bytes = append(c.bytes, f...)
		c.at, c.seeds = append(c.at, len(c.bytes)), append(c.seeds, seed)
	}
	return c
}

// stands is how a scan stands that began at base and took n frames of the chain.
func (c chain) stands(base int64, n, why int) api.Scan {
	return api.Scan{Count: n, End: c.at[n], Next: base + int64(n), Seed: c.seeds[n], Why: why}
}

// within tells how many of the chain's frames end within its first n bytes.
func (c chain) within(n int) int {
	ends, found := slices.BinarySearch(c.at[1:], n)
	if found {
		ends++
	}
	return ends
}

// with gives the chain's bytes and others behind them, in new memory.
func (c chain) with(behind ...byte) []byte {
	return append(bytes.Clone(c.bytes), behind...)
}

// plainWhy tells why a scan does not take the frame at b's front, by the orders of P6.3 and P7.1; 0 if it does.
func plainWhy(seed uint32, wanted int64, b []byte) int {
	switch {
	case len(b) == 0:
		return api.WhyEnd
	case len(b) < 16:
		return api.WhyShort
	}
	length, lsn := binary.LittleEndian.Uint32(b), binary.LittleEndian.Uint64(b[4:])
	switch {
	case length > 4096:
		return api.WhyLong
	case lsn == 0 || lsn > lastLSN:
		return api.WhyForm
	case len(b)-16 < int(length):
		return api.WhyShort
	case !bytes.Equal(b[12:16], markOf(sumOf(four(seed), b[:12], b[16:16+length]))):
		return api.WhySum
	case lsn != uint64(wanted):
		return api.WhyLSN
	}
	return 0
}

// plainScan tells what the scan comes to, its records, and the places of their frames.
func plainScan(b []byte, base int64, seed uint32) (s api.Scan, recs []api.Record, places []int) {
	if base < 1 {
		return
	}
	s.Next, s.Seed = base, seed
	for {
		rest := b[s.End:]
		if s.Why = plainWhy(s.Seed, s.Next, rest); s.Why != 0 {
			return
		}
		size := 16 + int(binary.LittleEndian.Uint32(rest))
		data := rest[16:size]
		recs, places = append(recs, api.Record{LSN: s.Next, Data: data}), append(places, s.End)
		s.Seed = sumOf(four(s.Seed), rest[:12], data)
		s.Count, s.End, s.Next = s.Count+1, s.End+size, s.Next+1
	}
}

func sameRecords(a, b []api.Record) bool {
	return slices.EqualFunc(a, b, func(x, y api.Record) bool {
		return x.LSN == y.LSN && bytes.Equal(x.Data, y.Data)
	})
}

// gather goes over all that Each gives.
func gather(b []byte, base int64, seed uint32) (recs []api.Record, places []int) {
	for at, rec := range scan.Each(b, base, seed) {
		recs, places = append(recs, rec), append(places, at)
	}
	return
}

// check holds all four calls against plainScan, and Over against what follows; it gives what Over told.
func check(t *testing.T, b []byte, base int64, seed uint32) api.Scan {
	t.Helper()
	want, wantRecs, wantPlaces := plainScan(b, base, seed)
	got := scan.Over(b, base, seed)
	if got != want {
		t.Fatalf("P7.1: Over(%x, %d, %d): %v, want %v", b, base, seed, got, want)
	}
	recs, places := gather(b, base, seed)
	if !sameRecords(recs, wantRecs) || !slices.Equal(places, wantPlaces) {
		t.Fatalf("P7.2: Each(%x, %d, %d): %v at %v, want %v at %v", b, base, seed, recs, places, wantRecs, wantPlaces)
	}
	for _, most := range []int{math.MinInt, -1, 0, 1, 2, len(wantRecs) - 1, len(wantRecs), len(wantRecs) + 1, math.MaxInt} {
		l := scan.Records(b, base, seed, most)
		if n := max(0, min(most, len(wantRecs))); !sameRecords(l, wantRecs[:n]) {
			t.Fatalf("P7.2: Records(%x, %d, %d, %d): %v, want %v", b, base, seed, most, l, wantRecs[:n])
		}
	}
	for i, r := range wantRecs {
		wantFound(t, b, base, seed, r, wantPlaces[i])
	}
	for _, lsn := range []int64{0, -1, math.MinInt64, math.MaxInt64, base - 1, want.Next} {
		wantNone(t, b, base, seed, lsn)
	}
	wantFront(t, b, base, seed, got)
	return got
}

func wantFound(t *testing.T, b []byte, base int64, seed uint32, want api.Record, place int) {
	t.Helper()
	rec, at, err := scan.Find(b, base, seed, want.LSN)
	if rec.LSN != want.LSN || !bytes.Equal(rec.Data, want.Data) || at != place || err != api.OK {
		t.Fatalf("P7.2: Find(%x, %d, %d, %d): %v, %d, %d, want %v, %d", b, base, seed, want.LSN, rec, at, err, want, place)
	}
}

func wantNone(t *testing.T, b []byte, base int64, seed uint32, lsn int64) {
	t.Helper()
	if rec, at, err := scan.Find(b, base, seed, lsn); rec.LSN != 0 || len(rec.Data) != 0 || at != 0 || err != api.ErrNone {
		t.Fatalf("P7.2: Find(%x, %d, %d, %d): %v, %d, %d, want none", b, base, seed, lsn, rec, at, err)
	}
}

// wantFront: the bytes that were taken alone are all taken, and what begins with them has no fewer.
func wantFront(t *testing.T, b []byte, base int64, seed uint32, s api.Scan) {
	t.Helper()
	want := s
	if s != (api.Scan{}) {
		want.Why = api.WhyEnd
	}
	if f := scan.Over(b[:s.End], base, seed); f != want {
		t.Fatalf("what follows: the front of %v: %v, want %v", s, f, want)
	}
	for _, behind := range [][]byte{{0}, make([]byte, 16), bytes.Repeat([]byte{0xff}, 20), b} {
		if l := scan.Over(slices.Concat(b[:s.End], behind), base, seed); l.Count < s.Count {
			t.Fatalf("what follows: with %x behind: %v, fewer than %v", behind, l, s)
		}
	}
}

func wantScan(t *testing.T, what string, b []byte, base int64, seed uint32, want api.Scan) {
	t.Helper()
	if got := check(t, b, base, seed); got != want {
		t.Errorf("%s: %v, want %v", what, got, want)
	}
}

func words(l ...string) [][]byte {
	var out [][]byte
	for _, w := range l {
		out = append(out, []byte(w))
	}
	return out
}

func TestExamples(t *testing.T) {
	c := chainOf(5, 0, words("a", "")...)
	f1 := c.bytes[:c.at[1]]
	wantScan(t, "P7.1: f1 f2", c.bytes, 5, 0, api.Scan{Count: 2, End: 33, Next: 7, Seed: c.seeds[2], Why: api.WhyEnd})
	wantScan(t, "P7.1: f1 f1", slices.Concat(f1, f1), 5, 0, api.Scan{Count: 1, End: 17, Next: 6, Seed: c.seeds[1], Why: api.WhySum})
	wantScan(t, "P7.1: f1 f2, 6 wanted", c.bytes, 6, 0, api.Scan{Next: 6, Why: api.WhyLSN})
	wantScan(t, "P7.1: f1 f2 behind another seed", c.bytes, 5, 1, api.Scan{Next: 5, Seed: 1, Why: api.WhySum})
	wantScan(t, "P7.1: f1 and 00", slices.Concat(f1, []byte{0}), 5, 0, api.Scan{Count: 1, End: 17, Next: 6, Seed: c.seeds[1], Why: api.WhyShort})
	wantScan(t, "P7.1: none", nil, 5, 0, api.Scan{Next: 5, Why: api.WhyEnd})
	wantScan(t, "P7.1: none, 0 wanted", nil, 0, 0, api.Scan{})
	wantFound(t, c.bytes, 5, 0, api.Record{LSN: 6}, 17)
	wantNone(t, c.bytes, 5, 0, 7)
}

func TestNoByteAtAll(t *testing.T) {
	for _, b := range [][]byte{nil, {}} {
		for _, base := range []int64{1, 2, lastLSN, math.MaxInt64} {
			wantScan(t, "P7.1: no byte", b, base, 77, api.Scan{Next: base, Seed: 77, Why: api.WhyEnd})
		}
		for _, base := range []int64{0, -1, math.MinInt64} {
			wantScan(t, "P7.1: no byte, a base that may not be", b, base, 77, api.Scan{})
		}
	}
}

func TestBasesThatMayNotBe(t *testing.T) {
	for _, base := range []int64{0, -1, -2, math.MinInt64, math.MinInt64 + 1} {
		for _, b := range [][]byte{chainOf(1, 0, words("a", "b")...).bytes, chainOf(base, 0, words("a", "b")...).bytes, {1}, make([]byte, 40)} {
			wantScan(t, "P7.1: a base that may not be", b, base, 0, api.Scan{})
		}
	}
}

func TestBases(t *testing.T) {
	for _, base := range []int64{1, 2, 1 << 40, lastLSN - 2} {
		c := chainOf(base, 9, words("a", "", "ccc")...)
		wantScan(t, "P7.1: a chain", c.bytes, base, 9, c.stands(base, 3, api.WhyEnd))
		wantScan(t, "P7.1: another base", c.bytes, base+1, 9, api.Scan{Next: base + 1, Seed: 9, Why: api.WhyLSN})
	}
}

func TestTheLastLSN(t *testing.T) {
	c := chainOf(lastLSN-1, 3, words("a", "b")...)
	end := c.stands(lastLSN-1, 2, api.WhyEnd)
	if end.Next != math.MaxInt64 {
		t.Fatalf("the chain ends at %d", end.Next)
	}
	wantScan(t, "P7.1: up to the last LSN", c.bytes, lastLSN-1, 3, end)
	one := chainOf(lastLSN, 3, []byte("a"))
	wantScan(t, "P7.1: the last LSN alone", one.bytes, lastLSN, 3, one.stands(lastLSN, 1, api.WhyEnd))
	// A frame behind the last LSN can only have a wrong one.
	for why, lsn := range map[int]int64{api.WhyForm: math.MaxInt64, api.WhyLSN: lastLSN} {
		f, _ := plainFrame(c.seeds[2], 0, lsn, nil)
		end.Why = why
		wantScan(t, "P7.1: a frame behind the last LSN", c.with(f...), lastLSN-1, 3, end)
		f, _ = plainFrame(3, 0, lsn, nil)
		wantScan(t, "P7.1: a frame where 2^63 - 1 is wanted", f, math.MaxInt64, 3, api.Scan{Next: math.MaxInt64, Seed: 3, Why: why})
	}
	f, _ := plainFrame(c.seeds[2], 0, math.MinInt64, nil)
	end.Why = api.WhyForm
	wantScan(t, "P7.1: a frame of an LSN that went round", c.with(f...), lastLSN-1, 3, end)
}

func TestCutAtEveryPlace(t *testing.T) {
	c := chainOf(7, 1, words("a", "", "a longer one", "d")...)
	for n := range len(c.bytes) + 1 {
		took := c.within(n)
		why := api.WhyShort
		if c.at[took] == n {
			why = api.WhyEnd
		}
		wantScan(t, "P7.1: cut short", c.bytes[:n], 7, 1, c.stands(7, took, why))
	}
}

// Bytes that are no frame behind a chain end it there, of several wrongs by the first one that Read tells.
func TestWhatStandsBehindAChain(t *testing.T) {
	c := chainOf(7, 1, words("a", "b")...)
	frame := func(length uint32, lsn int64, data []byte) []byte {
		f, _ := plainFrame(c.seeds[2], length, lsn, data)
		return f
	}
	wrongMark := func(f []byte) []byte {
		f[13] ^= 1
		return f
	}
	long := make([]byte, 4097)
	for _, behind := range []struct {
		what  string
		bytes []byte
		why   int
	}{
		{"too long", frame(4097, 9, long), api.WhyLong},
		{"too long by far", frame(math.MaxUint32, 9, nil), api.WhyLong},
		{"too long, an LSN that may not be, a wrong mark", wrongMark(frame(4097, 0, nil)), api.WhyLong},
		{"too long, cut within the front", frame(4097, 9, nil)[:15], api.WhyShort},
		{"an LSN of 0", frame(0, 0, nil), api.WhyForm},
		{"an LSN below 0", frame(0, -9, nil), api.WhyForm},
		{"an LSN of 2^63 - 1", frame(0, math.MaxInt64, nil), api.WhyForm},
		{"an LSN that may not be, cut within the data", frame(2, 0, nil), api.WhyForm},
		{"an LSN that may not be, a wrong mark", wrongMark(frame(0, 0, nil)), api.WhyForm},
		{"cut within the data", frame(2, 9, []byte("x")), api.WhyShort},
		{"cut within the data, another LSN, a wrong mark", wrongMark(frame(2, 5, nil)), api.WhyShort},
		{"a wrong mark", wrongMark(frame(1, 9, []byte("x"))), api.WhySum},
		{"a wrong mark, another LSN", wrongMark(frame(1, 5, []byte("x"))), api.WhySum},
		{"behind another seed", chainOf(9, 4, words("x")...).bytes, api.WhySum},
		{"the LSN of the one ahead", frame(1, 8, []byte("x")), api.WhyLSN},
		{"an LSN left out", frame(1, 10, []byte("x")), api.WhyLSN},
		{"the least LSN", frame(4096, 1, long[:4096]), api.WhyLSN},
		{"the greatest LSN", frame(0, lastLSN, nil), api.WhyLSN},
		{"the greatest length", frame(4096, 9, long[:4096]), 0},
	} {
		want := c.stands(7, 2, behind.why)
		if behind.why == 0 {
			want = chainOf(7, 1, []byte("a"), []byte("b"), long[:4096]).stands(7, 3, api.WhyEnd)
		}
		wantScan(t, "P7.1: "+behind.what, c.with(behind.bytes...), 7, 1, want)
	}
}

// A frame that was not taken hides the good ones behind it.
func TestNothingIsTakenBehindAWrongFrame(t *testing.T) {
	c := chainOf(7, 1, words("a", "b", "c", "d")...)
	for i := range 8 * len(c.bytes) {
		b := bytes.Clone(c.bytes)
		b[i/8] ^= 1 << (i % 8)
		whole := c.within(i / 8)
		if got := check(t, b, 7, 1); got.Count != whole || got.Why == api.WhyEnd || got.Why == api.WhyLSN {
			t.Errorf("P7.1: the bit %d turned: %v, want %d frames", i, got, whole)
		}
	}
}

func TestSeeds(t *testing.T) {
	for _, seed := range []uint32{0, 1, 1 << 31, math.MaxUint32} {
		c := chainOf(4, seed, words("a", "b")...)
		wantScan(t, "P7.1: its own seed", c.bytes, 4, seed, c.stands(4, 2, api.WhyEnd))
		wantScan(t, "P7.1: another seed", c.bytes, 4, seed+1, api.Scan{Next: 4, Seed: seed + 1, Why: api.WhySum})
	}
}

// A scan may be taken up where another one ended.
func TestScansGoOnBehindOneAnother(t *testing.T) {
	c := chainOf(4, 8, words("a", "", "cc", "d")...)
	for n := range 5 {
		first := scan.Over(c.bytes[:c.at[n]], 4, 8)
		rest := scan.Over(c.bytes[first.End:], first.Next, first.Seed)
		if rest.Count != 4-n || rest.Next != 8 || rest.Seed != c.seeds[4] || rest.Why != api.WhyEnd {
			t.Errorf("P7.1: behind %v: %v", first, rest)
		}
	}
}

func TestDrawnBytes(t *testing.T) {
	r := rand.New(rand.NewSource(71))
	for range 3000 {
		base, seed := 1+r.Int63n(5), uint32(r.Intn(3))
		var datas [][]byte
		for range r.Intn(6) {
			d := make([]byte, r.Intn(20))
			r.Read(d)
			datas = append(datas, d)
		}
		b := chainOf(base, seed, datas...).bytes
		switch r.Intn(4) {
		case 0:
			b = b[:r.Intn(len(b)+1)]
		case 1:
			junk := make([]byte, r.Intn(40))
			r.Read(junk)
			b = append(b, junk...)
		case 2:
			if len(b) > 0 {
				b[r.Intn(len(b))] = byte(r.Intn(256))
			}
		case 3:
			b = append(b, b[:r.Intn(len(b)+1)]...)
		}
		check(t, b, base+r.Int63n(2), seed)
	}
}

func TestMost(t *testing.T) {
	c := chainOf(5, 9, words("a", "", "c", "d")...)
	for most, want := range map[int]int{math.MinInt: 0, -1: 0, 0: 0, 1: 1, 2: 2, 3: 3, 4: 4, 5: 4, math.MaxInt: 4} {
		if l := scan.Records(c.with(1, 2, 3), 5, 9, most); len(l) != want {
			t.Errorf("P7.2: the first %d: %d", most, len(l))
		}
	}
}
