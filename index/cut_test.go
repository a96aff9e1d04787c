package index_test

import (
	"math"
	"math/rand"
	"testing"

	"flume/api"
	"flume/index"
)

// wantNext asks which frame an index takes next, by frames that are out of order and then by one that is not.
func wantNext(t *testing.T, what string, x *index.Index, p *plain) {
	t.Helper()
	n := len(p.told)
	if n == 0 {
		wantAdd(t, x, 900, 0, api.OK)
		wantAdd(t, x, 902, 1, api.ErrOrder)
		return
	}
	last := p.told[n-1]
	if last.LSN == lastLSN || last.Off == lastOff {
		return
	}
	for lsn := max(last.LSN-3, 1); lsn <= last.LSN; lsn++ {
		wantAdd(t, x, lsn, lastOff, api.ErrOrder)
	}
	if last.LSN < lastLSN-1 {
		wantAdd(t, x, last.LSN+2, lastOff, api.ErrOrder)
	}
	wantAdd(t, x, last.LSN+1, last.Off, api.ErrOrder)
	check(t, what, x, p)
	p.add(last.LSN+1, last.Off+1)
	wantAdd(t, x, last.LSN+1, last.Off+1, api.OK)
	check(t, what, x, p)
}

func TestCutAnywhere(t *testing.T) {
	for _, told := range [][]api.Entry{
		nil, frames(5, 32), frames(1, 0), frames(5, 32, 80), frames(5, 32, 132), frames(5, 32, 80, 132, 140), frames(1, 0, 1, 2, 3, 99, 100, 101, 300),
		frames(lastLSN, lastOff), frames(lastLSN-3, 0, 60, 100, 160),
	} {
		cuts := []int64{math.MinInt64, -1, 0, 1, lastLSN - 1, lastLSN}
		for _, f := range told {
			cuts = append(cuts, f.LSN-1, f.LSN)
		}
		if n := len(told); n > 0 && told[n-1].LSN < lastLSN-1 {
			cuts = append(cuts, told[n-1].LSN+1, told[n-1].LSN+2)
		}
		for _, lsn := range cuts {
			for _, step := range []int{1, 2, 100, longStep} {
				x, p := both(t, step, told...)
				wantCut(t, x, lsn, p.cut(lsn))
				check(t, "cut", x, p)
				wantCut(t, x, lsn, 0)
				check(t, "cut twice", x, p)
				wantNext(t, "behind a cut", x, p)
			}
		}
	}
}

func TestCutBetweenEntries(t *testing.T) {
	x, _ := both(t, 100, frames(5, 32, 80, 132, 140, 150)...)
	wantCut(t, x, 10, 0)
	wantAdd(t, x, 8, 200, api.ErrOrder)
	wantCut(t, x, 9, 0)
	wantAdd(t, x, 9, 200, api.ErrOrder)
	wantAdd(t, x, 8, 132, api.ErrOrder)
	wantAdd(t, x, 8, 133, api.OK)
	wantEntries(t, "cut behind the last entry", x, api.Entry{LSN: 5, Off: 32}, api.Entry{LSN: 7, Off: 132})
	wantCut(t, x, 6, 1)
	wantAdd(t, x, 6, 32, api.ErrOrder)
	wantAdd(t, x, 6, 140, api.OK)
	wantEntries(t, "cut ahead of the last entry", x, api.Entry{LSN: 5, Off: 32}, api.Entry{LSN: 6, Off: 140})
}

func TestCutAll(t *testing.T) {
	for _, lsn := range []int64{math.MinInt64, 0, 4, 5} {
		x, _ := both(t, 100, frames(5, 32, 80, 132, 140)...)
		wantCut(t, x, lsn, 2)
		wantEntries(t, "all cut", x)
		wantFind(t, x, lastLSN, api.Entry{}, false)
		wantAdd(t, x, 0, 0, api.ErrArg)
		wantAdd(t, x, 2, 0, api.OK)
		wantEntries(t, "anew", x, api.Entry{LSN: 2})
		wantAdd(t, x, 9, 141, api.ErrOrder)
		wantAdd(t, x, 3, 99, api.OK)
		wantAdd(t, x, 4, 100, api.OK)
		wantEntries(t, "anew", x, api.Entry{LSN: 2}, api.Entry{LSN: 4, Off: 100})
	}
}

// TestDrawnCalls plays calls in any order, right ones and wrong ones, against the plain index.
func TestDrawnCalls(t *testing.T) {
	r := rand.New(rand.NewSource(94))
	for range 300 {
		step := 1 + r.Intn(60)
		x, p := both(t, step)
		for range 120 {
			var last api.Entry
			if n := len(p.told); n > 0 {
				last = p.told[n-1]
			}
			switch r.Intn(12) {
			case 0:
				lsn := last.LSN + 2 - r.Int63n(9)
				wantCut(t, x, lsn, p.cut(lsn))
			case 1:
				lsn, off := last.LSN-1+r.Int63n(4), last.Off-2+r.Intn(5)
				wantAdd(t, x, lsn, off, p.add(lsn, off))
			default:
				lsn, off := last.LSN+1, last.Off+1+r.Intn(30)
				wantAdd(t, x, lsn, off, p.add(lsn, off))
			}
			wantEntries(t, "drawn calls", x, p.entries()...)
		}
		check(t, "drawn calls", x, p)
	}
}

// wantNothing makes every call of an index that takes nothing.
func wantNothing(t *testing.T, what string, x *index.Index) {
	t.Helper()
	p := &plain{step: 1}
	for range 2 {
		check(t, what, x, p)
		for _, f := range append(wrongFrames, frames(1, 0, 1, lastOff)...) {
			if err := x.Add(f.LSN, f.Off); err != api.ErrArg {
				t.Errorf("P9.6: %s: Add(%d, %d): %v", what, f.LSN, f.Off, err)
			}
		}
		for _, lsn := range []int64{math.MinInt64, 0, 1, lastLSN} {
			if n := x.Cut(lsn); n != 0 {
				t.Errorf("P9.6: %s: Cut(%d): %d", what, lsn, n)
			}
		}
	}
}

func TestNilAndZero(t *testing.T) {
	wantNothing(t, "nil", nil)
	wantNothing(t, "zero", &index.Index{})
	var x index.Index
	wantNothing(t, "a variable", &x)
}

func TestEntriesAreNewMemory(t *testing.T) {
	x, p := both(t, 10, frames(1, 0, 10, 20, 30, 40)...)
	for range 3 {
		l := x.Entries()
		other := x.Entries()
		l = l[:cap(l)]
		for i := range l {
			l[i] = api.Entry{LSN: -1, Off: -1}
		}
		_ = append(l[:1], api.Entry{LSN: -2, Off: -2})
		check(t, "its list written over", x, p)
		if len(other) != len(p.entries()) || other[0] != p.told[0] {
			t.Errorf("P9.6: a list written over changed another: %v", other)
		}
		last := p.told[len(p.told)-1]
		p.add(last.LSN+1, last.Off+10)
		wantAdd(t, x, last.LSN+1, last.Off+10, api.OK)
		check(t, "a frame behind it", x, p)
	}
	l := x.Entries()
	wantCut(t, x, 2, len(l)-1)
	wantAdd(t, x, 2, 500, api.OK)
	if want := p.entries(); l[1] != want[1] {
		t.Errorf("P9.6: a cut and what was told behind it changed a list that was answered: %v", l)
	}
}
