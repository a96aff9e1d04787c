package index_test

import (
	"math"
	"math/rand"
	"slices"
	"testing"

	"flume/api"
	"flume/index"
)

// What an index answers is worked out here by the document's words, by walks over all frames that were told.

const (
	lastLSN  = math.MaxInt64
	lastOff  = 1<<31 - 1
	longStep = 1 << 20
)

// plain is an index that keeps all frames that were told, and works its entries out each time.
type plain struct {
	step int
	told []api.Entry
}

func (p *plain) entries() []api.Entry {
	var l []api.Entry
	for _, f := range p.told {
		if len(l) == 0 || f.Off >= l[len(l)-1].Off+p.step {
			l = append(l, f)
		}
	}
	return l
}

func (p *plain) add(lsn int64, off int) api.Errno {
	if lsn < 1 || off < 0 || off > lastOff {
		return api.ErrArg
	}
	if n := len(p.told); n > 0 {
		ahead := p.told[n-1]
		if ahead.LSN == lastLSN || lsn != ahead.LSN+1 || off <= ahead.Off {
			return api.ErrOrder
		}
	}
	p.told = append(p.told, api.Entry{LSN: lsn, Off: off})
	return api.OK
}

func (p *plain) find(lsn int64) (api.Entry, bool) {
	for _, e := range slices.Backward(p.entries()) {
		if e.LSN <= lsn {
			return e, true
		}
	}
	return api.Entry{}, false
}

func (p *plain) cut(lsn int64) int {
	if n := len(p.told); n == 0 || p.told[n-1].LSN < lsn {
		return 0
	}
	all := p.entries()
	left := slices.DeleteFunc(slices.Clone(all), func(e api.Entry) bool { return e.LSN >= lsn })
	for len(p.told) > 0 && (len(left) == 0 || p.told[len(p.told)-1] != left[len(left)-1]) {
		p.told = p.told[:len(p.told)-1]
	}
	return len(all) - len(left)
}

func newIndex(t *testing.T, step int) *index.Index {
	t.Helper()
	x, err := index.New(step)
	if x == nil || err != api.OK {
		t.Fatalf("P9.1: New(%d): %v, %v", step, x, err)
	}
	return x
}

func wantAdd(t *testing.T, x *index.Index, lsn int64, off int, want api.Errno) {
	t.Helper()
	if err := x.Add(lsn, off); err != want {
		t.Errorf("P9.2: Add(%d, %d): %v, want %v", lsn, off, err, want)
	}
}

func wantEntries(t *testing.T, what string, x *index.Index, want ...api.Entry) {
	t.Helper()
	if got := x.Entries(); !slices.Equal(got, want) {
		t.Errorf("P9.3: %s: Entries: %v, want %v", what, got, want)
	}
}

func wantFind(t *testing.T, x *index.Index, lsn int64, want api.Entry, there bool) {
	t.Helper()
	if got, ok := x.Find(lsn); got != want || ok != there {
		t.Errorf("P9.3: Find(%d): %v, %v, want %v, %v", lsn, got, ok, want, there)
	}
}

func wantCut(t *testing.T, x *index.Index, lsn int64, want int) {
	t.Helper()
	if got := x.Cut(lsn); got != want {
		t.Errorf("P9.4: Cut(%d): %d, want %d", lsn, got, want)
	}
}

// check holds all that x answers without a change against p.
func check(t *testing.T, what string, x *index.Index, p *plain) {
	t.Helper()
	entries := p.entries()
	wantEntries(t, what, x, entries...)
	wantBytes(t, what, x, plainBytes(p.step, entries))
	asked := []int64{math.MinInt64, -1, 0, 1, lastLSN - 1, lastLSN}
	for _, f := range p.told {
		asked = append(asked, f.LSN-1, f.LSN)
		if f.LSN < lastLSN {
			asked = append(asked, f.LSN+1)
		}
	}
	for _, lsn := range asked {
		want, there := p.find(lsn)
		wantFind(t, x, lsn, want, there)
	}
}

// both is an index and the plain one that is told the same.
func both(t *testing.T, step int, told ...api.Entry) (*index.Index, *plain) {
	t.Helper()
	x, p := newIndex(t, step), &plain{step: step}
	for _, f := range told {
		if err := p.add(f.LSN, f.Off); err != api.OK {
			t.Fatalf("the test tells a wrong frame: %v", f)
		}
		wantAdd(t, x, f.LSN, f.Off, api.OK)
	}
	return x, p
}

// frames are frames from lsn on, at these places.
func frames(lsn int64, offs ...int) []api.Entry {
	var l []api.Entry
	for i, off := range offs {
		l = append(l, api.Entry{LSN: lsn + int64(i), Off: off})
	}
	return l
}

// drawnFrames are n frames from lsn on, of most bytes at most.
func drawnFrames(r *rand.Rand, lsn int64, n, most int) []api.Entry {
	var l []api.Entry
	off := r.Intn(most)
	for i := range n {
		l = append(l, api.Entry{LSN: lsn + int64(i), Off: off})
		off += 1 + r.Intn(most)
	}
	return l
}

func TestExamples(t *testing.T) {
	x := newIndex(t, 100)
	for _, f := range frames(5, 32, 80, 132, 140) {
		wantAdd(t, x, f.LSN, f.Off, api.OK)
	}
	first, second := api.Entry{LSN: 5, Off: 32}, api.Entry{LSN: 7, Off: 132}
	wantEntries(t, "the example", x, first, second)
	wantFind(t, x, 4, api.Entry{}, false)
	wantFind(t, x, 6, first, true)
	wantFind(t, x, 99, second, true)
	wantAdd(t, x, 10, 200, api.ErrOrder)
	wantAdd(t, x, 9, 140, api.ErrOrder)
	wantAdd(t, x, 0, 1, api.ErrArg)
	wantCut(t, x, 7, 1)
	wantEntries(t, "the example, cut", x, first)
	wantAdd(t, x, 6, 80, api.OK)
	wantLoad(t, "no bytes", nil, api.ErrShort)
	b := x.Bytes()
	b[0] ^= 1
	wantLoad(t, "a byte turned", b, api.ErrSum)
}

func TestNew(t *testing.T) {
	for _, step := range []int{1, 2, 100, longStep - 1, longStep} {
		x, p := both(t, step)
		check(t, "no frame", x, p)
		wantCut(t, x, math.MinInt64, 0)
		wantCut(t, x, 1, 0)
	}
	for _, step := range []int{math.MinInt, -longStep, -1, 0, longStep + 1, 1 << 32, 1<<32 + 1, math.MaxInt} {
		if x, err := index.New(step); x != nil || err != api.ErrArg {
			t.Errorf("P9.1: New(%d): %v, %v", step, x, err)
		}
	}
}

func TestIndexesAreApart(t *testing.T) {
	x, p := both(t, 10, frames(1, 0, 20, 40)...)
	y, q := both(t, 10, frames(7, 5, 6, 100)...)
	check(t, "the first of two", x, p)
	check(t, "the second of two", y, q)
	wantCut(t, y, 0, 2)
	check(t, "the first of two", x, p)
}

// wrongFrames are frames that no index takes, whatever was told.
var wrongFrames = []api.Entry{
	{LSN: 0, Off: 500}, {LSN: -1, Off: 500}, {LSN: math.MinInt64, Off: 500},
	{LSN: 6, Off: -1}, {LSN: 6, Off: math.MinInt}, {LSN: 6, Off: lastOff + 1}, {LSN: 6, Off: math.MaxInt},
	{LSN: 0, Off: -1}, {LSN: 0, Off: lastOff + 1}, {LSN: 6, Off: 1<<32 + 500},
}

func TestWrongArguments(t *testing.T) {
	x, p := both(t, 100)
	for _, f := range wrongFrames {
		wantAdd(t, x, f.LSN, f.Off, api.ErrArg)
		check(t, "no frame, behind a wrong one", x, p)
	}
	x, p = both(t, 100, frames(5, 32)...)
	for _, f := range append(wrongFrames, api.Entry{LSN: 5, Off: -1}, api.Entry{LSN: 9, Off: lastOff + 1}) {
		wantAdd(t, x, f.LSN, f.Off, api.ErrArg)
		check(t, "a frame, behind a wrong one", x, p)
	}
	wantAdd(t, x, 6, 33, api.OK)
}

func TestFirstFrame(t *testing.T) {
	for _, lsn := range []int64{1, 2, 5, 1 << 32, lastLSN - 1, lastLSN} {
		for _, off := range []int{0, 1, 32, 1 << 20, lastOff - 1, lastOff} {
			x, p := both(t, 100, api.Entry{LSN: lsn, Off: off})
			check(t, "one frame", x, p)
			wantEntries(t, "one frame", x, api.Entry{LSN: lsn, Off: off})
		}
	}
}

func TestFramesOutOfOrder(t *testing.T) {
	x, p := both(t, 100, frames(5, 32, 40)...)
	for _, f := range []api.Entry{
		{LSN: 6, Off: 40}, {LSN: 6, Off: 41}, {LSN: 6, Off: 500}, {LSN: 5, Off: 32}, {LSN: 5, Off: 500}, {LSN: 4, Off: 500}, {LSN: 1, Off: 500},
		{LSN: 8, Off: 41}, {LSN: 8, Off: 500}, {LSN: lastLSN, Off: 500},
		{LSN: 7, Off: 40}, {LSN: 7, Off: 39}, {LSN: 7, Off: 32}, {LSN: 7, Off: 0}, {LSN: 8, Off: 40},
	} {
		wantAdd(t, x, f.LSN, f.Off, api.ErrOrder)
		check(t, "behind a frame out of order", x, p)
	}
	wantAdd(t, x, 7, 41, api.OK)
	wantAdd(t, x, 7, 41, api.ErrOrder)
	wantAdd(t, x, 8, 41, api.ErrOrder)
}

func TestBehindTheLast(t *testing.T) {
	x, p := both(t, 1, frames(lastLSN-1, 0, 1)...)
	for _, lsn := range []int64{1, lastLSN - 1, lastLSN} {
		wantAdd(t, x, lsn, 2, api.ErrOrder)
	}
	for _, lsn := range []int64{math.MinInt64, 0} {
		wantAdd(t, x, lsn, 2, api.ErrArg)
	}
	check(t, "the greatest LSN", x, p)
	x, p = both(t, 1, frames(1, lastOff-1, lastOff)...)
	wantAdd(t, x, 3, lastOff, api.ErrOrder)
	wantAdd(t, x, 3, 0, api.ErrOrder)
	wantAdd(t, x, 3, lastOff+1, api.ErrArg)
	check(t, "the last place", x, p)
}

func TestStep(t *testing.T) {
	for _, step := range []int{1, 2, 3, 100, longStep} {
		for _, off := range []int{0, 32, lastOff - 3*longStep} {
			x := newIndex(t, step)
			wantAdd(t, x, 1, off, api.OK)
			lsn := int64(2)
			if step > 1 {
				wantAdd(t, x, lsn, off+step-1, api.OK)
				wantEntries(t, "one less than step", x, api.Entry{LSN: 1, Off: off})
				lsn++
			}
			wantAdd(t, x, lsn, off+step, api.OK)
			wantEntries(t, "just step", x, api.Entry{LSN: 1, Off: off}, api.Entry{LSN: lsn, Off: off + step})
			wantAdd(t, x, lsn+1, off+2*step+1, api.OK)
			wantEntries(t, "more than step", x, api.Entry{LSN: 1, Off: off}, api.Entry{LSN: lsn, Off: off + step}, api.Entry{LSN: lsn + 1, Off: off + 2*step + 1})
		}
	}
}

func TestStepCountsFromTheEntry(t *testing.T) {
	x, p := both(t, 100, frames(1, 0, 60, 120, 180, 219, 220, 320, 900, 950, 999, 1000)...)
	check(t, "many", x, p)
	wantEntries(t, "many", x, api.Entry{LSN: 1}, api.Entry{LSN: 3, Off: 120}, api.Entry{LSN: 6, Off: 220}, api.Entry{LSN: 7, Off: 320}, api.Entry{LSN: 8, Off: 900}, api.Entry{LSN: 11, Off: 1000})
}

func TestFind(t *testing.T) {
	x, _ := both(t, 10, frames(20, 0, 5, 10, 15, 20, 25)...)
	for lsn, want := range map[int64]int64{
		math.MinInt64: 0, -1: 0, 0: 0, 1: 0, 19: 0, 20: 20, 21: 20, 22: 22, 23: 22, 24: 24, 25: 24, 26: 24, lastLSN: 24,
	} {
		wantFind(t, x, lsn, api.Entry{LSN: want, Off: 5 * int(max(want-20, 0))}, want > 0)
	}
}

func TestNearEnough(t *testing.T) {
	r := rand.New(rand.NewSource(9))
	for range 200 {
		step := 1 + r.Intn(150)
		told := drawnFrames(r, 1+r.Int63n(1<<40), 80, 60)
		x, _ := both(t, step, told...)
		for _, f := range told {
			e, ok := x.Find(f.LSN)
			if !ok || !slices.Contains(told, e) || e != f && f.Off-e.Off >= step || e.LSN > f.LSN {
				t.Fatalf("what follows: step %d: Find of %v: %v, %v", step, f, e, ok)
			}
		}
	}
}

func TestManyFrames(t *testing.T) {
	r := rand.New(rand.NewSource(90))
	told := drawnFrames(r, 7, 20000, 40)
	for _, step := range []int{1, 1024, longStep} {
		x, p := both(t, step, told...)
		entries := p.entries()
		wantEntries(t, "very many", x, entries...)
		wantBytes(t, "very many", x, plainBytes(step, entries))
		for i, e := range entries {
			wantFind(t, x, e.LSN, e, true)
			if i > 0 {
				wantFind(t, x, e.LSN-1, entries[i-1], true)
			}
		}
	}
}
