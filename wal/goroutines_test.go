package wal_test

import (
	"fmt"
	"slices"
	"sync"
	"sync/atomic"
	"testing"

	"flume/api"
	"flume/disk"
	"flume/wal"
)

// shared is a log for several goroutines, with batches that linger and segments that roll.
func shared(t *testing.T) *wal.Log {
	t.Helper()
	l, _, err := wal.Open(disk.New(1<<24), changed(func(p *api.EngineParams) {
		p.Store.SegMax, p.QueueCap, p.Pace.Linger = 1<<12, 8, 0.25
	}))
	same(t, "Open", err, api.OK)
	return l
}

// together runs so many goroutines to their ends.
func together(many int, f func(i int)) {
	var w sync.WaitGroup
	for i := range many {
		w.Go(func() { f(i) })
	}
	w.Wait()
}

// Writers each get LSNs that rise, all of them are unlike and without a gap, and each record is what it was given for.
func TestSeveralWrite(t *testing.T) {
	l := shared(t)
	const writers, each = 8, 100
	var got [writers][]int64
	together(writers, func(i int) {
		for n := range each {
			write := l.Append
			if (i+n)%3 > 0 {
				write = l.AppendAsync
			}
			lsn, err := write(fmt.Appendf(nil, "%d of %d", n, i))
			if err != api.OK {
				t.Errorf("P22.5: %v", err)
			}
			got[i] = append(got[i], lsn)
		}
	})
	same(t, "Sync", l.Sync(), api.OK)
	var all []int64
	for i, lsns := range got {
		same(t, "P22.5: they rise", slices.IsSorted(lsns), true)
		for n, lsn := range lsns {
			rec, err := l.Read(lsn)
			same(t, "P22.5: the record", toldRecord(rec, err), fmt.Sprintf("0 %d %d of %d", lsn, n, i))
		}
		all = append(all, lsns...)
	}
	slices.Sort(all)
	for i, lsn := range all {
		same(t, "P22.5: without a gap", lsn, i+1)
	}
	same(t, "P22.5: Look", fmt.Sprint(l.Look().Durable, l.Look().Reserved), fmt.Sprint(writers*each+1, writers*each+1))
}

// Readers with cursors of their own see all, in order, while it is written; what a Look tells at any moment is between two calls.
func TestSeveralFollow(t *testing.T) {
	l := shared(t)
	const writers, readers, each = 4, 4, 80
	var left atomic.Int64
	left.Store(writers)
	together(writers+2*readers, func(i int) {
		switch {
		case i < writers:
			for n := range each {
				if _, err := l.AppendAsync(fmt.Appendf(nil, "%d", n)); err != api.OK {
					t.Errorf("P22.5: %v", err)
				}
			}
			left.Add(-1)
		case i < writers+readers:
			c := l.From(1)
			for lsn := int64(1); lsn <= writers*each; {
				rec, err := c.Next()
				if err == api.OK && rec.LSN == lsn && c.At() == lsn+1 {
					lsn++
				} else if err != api.ErrNotYet {
					t.Errorf("P22.3: %v, %v, want %d", rec, err, lsn)
					return
				}
			}
		default:
			for left.Load() > 0 {
				if s := l.Look(); s.Leader != 0 || s.Line != 0 || s.Held > 8 || s.Reserved-s.Durable != int64(s.Held) || s.First != 1 {
					t.Errorf("P22.5: within a call: %+v", s)
				}
				lsn := int64(1)
				for rec := range l.All(0) {
					if rec.LSN != lsn {
						t.Errorf("P22.4: %d, want %d", rec.LSN, lsn)
					}
					lsn++
				}
			}
		}
	})
}

// One cursor that several ask tells each record to one of them.
func TestSeveralAskOneCursor(t *testing.T) {
	l := shared(t)
	const askers, many = 8, 400
	for range many {
		l.AppendAsync([]byte("x"))
	}
	c := l.From(1)
	var got [askers][]int64
	together(askers, func(i int) {
		for {
			rec, err := c.Next()
			if err == api.ErrNotYet {
				return
			}
			if at := c.At(); err != api.OK || at <= rec.LSN {
				t.Errorf("P22.5: %v, %d behind %d", err, at, rec.LSN)
				return
			}
			got[i] = append(got[i], rec.LSN)
		}
	})
	var all []int64
	for _, lsns := range got {
		same(t, "P22.3: in order", slices.IsSorted(lsns), true)
		all = append(all, lsns...)
	}
	slices.Sort(all)
	same(t, "P22.3: each once", len(all), many)
	for i, lsn := range all {
		same(t, "P22.3: each once", lsn, i+1)
	}
}

// All calls at a time, the front goes on, and the log is closed at the end: each is answered as behind some order of them.
func TestSeveralDoAll(t *testing.T) {
	l := shared(t)
	c := l.From(1)
	var closed atomic.Int64
	together(12, func(i int) {
		for n := int64(0); n < 60; n++ {
			var err api.Errno
			switch i {
			case 0:
				err = l.TruncateFront(min(n, l.Look().Durable))
			case 1:
				err = l.Sync()
			case 2:
				_, err = l.Read(n)
			case 3:
				c.Stand(n)
				c.At()
			case 4:
				_, err = c.Next()
			case 5:
				_, err = l.From(n).Next()
			case 6:
				for range l.All(n) {
				}
			case 7:
				if n == 59 && l.Close() == api.OK {
					closed.Add(1)
				}
			case 8:
				l.Look()
			case 9:
				_, err = l.AppendAsync([]byte("a"))
			default:
				_, err = l.Append([]byte("b"))
			}
			switch err {
			case api.OK, api.ErrClosed:
			case api.ErrNotYet, api.ErrTruncated:
				if i == 0 || i == 1 || i > 8 {
					t.Errorf("P22.5: %d: %v", i, err)
				}
			default:
				t.Errorf("P22.5: %d: %v", i, err)
			}
		}
	})
	same(t, "P22.5: closed once", closed.Load(), 1)
	s := l.Look()
	same(t, "P22.5: Look", []any{s.Closed, s.Held, s.Durable == s.Reserved}, "[true 0 true]")
}

// A log fails while several call it: all is answered.
func TestSeveralCallALogThatFails(t *testing.T) {
	for at := int64(1); at < 30; at += 3 {
		d := disk.New(1 << 20)
		l, _, _ := wal.Open(d, changed(func(p *api.EngineParams) { p.Store.SegMax = 64 }))
		d.Arm(api.Fault{At: at, Kind: api.FaultPanic})
		var oks [6]int64
		together(6, func(i int) {
			for range 20 {
				lsn, err := l.Append([]byte("a"))
				if err == api.OK {
					oks[i]++
				} else if err != api.ErrFailed || lsn != 0 {
					t.Errorf("P22.2: %d, %v", lsn, err)
				}
			}
		})
		s := l.Look()
		same(t, "P22.5: Look", []any{s.Failed, s.Cause, s.Held, s.Durable}, []any{true, api.ErrPanic, 0, 1 + oks[0] + oks[1] + oks[2] + oks[3] + oks[4] + oks[5]})
	}
}

// The cursors of no log, too.
func TestSeveralAskNoLog(t *testing.T) {
	for _, c := range []*wal.Cursor{(*wal.Log)(nil).From(1), new(wal.Log).From(1), new(wal.Cursor)} {
		together(4, func(i int) {
			for range 50 {
				c.Stand(int64(i))
				if _, err := c.Next(); err != api.ErrClosed || c.At() > 3 {
					t.Errorf("P22.6: %v", err)
				}
			}
		})
	}
}

// A Look stands behind the call that is under way, however long that takes.
func TestLookBehindACall(t *testing.T) {
	l, _, err := wal.Open(disk.New(1<<24), changed(func(p *api.EngineParams) {
		p.Store.SegMax, p.QueueCap, p.QueueBytes, p.Pace.Most, p.Pace.Bytes = 1<<20, 256, 1<<21, 100, 1<<20
	}))
	same(t, "Open", err, api.OK)
	var ended atomic.Int64
	together(2, func(i int) {
		if i == 0 {
			for range 10 {
				for range 200 {
					l.AppendAsync(make([]byte, 4096))
				}
				l.Sync()
			}
			ended.Add(1)
		}
		for ended.Load() == 0 {
			if s := l.Look(); s.Leader != 0 || s.Reserved-s.Durable != int64(s.Held) {
				t.Errorf("P22.5: within a call: %+v", s)
				return
			}
		}
	})
}

// An iterator's beginning is one call: the front is not cut between what First is and the first Read.
func TestAllBeginsInOneCall(t *testing.T) {
	l, _, err := wal.Open(disk.New(1<<20), changed(func(p *api.EngineParams) { p.QueueCap = 1024 }))
	same(t, "Open", err, api.OK)
	const many = 3000
	for range many {
		l.AppendAsync([]byte("a"))
	}
	l.Sync()
	together(4, func(i int) {
		for lsn := int64(1); i == 0 && lsn < many; lsn++ {
			l.TruncateFront(lsn)
		}
		for first := int64(0); i > 0 && first < many-1; {
			first = 0
			for rec := range l.All(0) {
				first = rec.LSN
				break
			}
			if first == 0 {
				t.Error("P22.4: no record")
				return
			}
		}
	})
}

// A Stand comes ahead of a Next or behind it, not into its midst, however long that takes.
func TestStandBehindANext(t *testing.T) {
	const many = 200
	for range 20 {
		l, _, err := wal.Open(disk.New(1<<21), changed(func(p *api.EngineParams) {
			p.Store.SegMax, p.QueueCap, p.QueueBytes, p.Pace.Most, p.Pace.Bytes = 1<<20, many, 1<<20, many, 1<<20
		}))
		same(t, "Open", err, api.OK)
		for range many {
			l.AppendAsync(make([]byte, 4096))
		}
		c := l.From(1)
		var told int64
		var began atomic.Int64
		together(2, func(i int) {
			if i == 0 {
				began.Store(1)
				rec, _ := c.Next()
				told = rec.LSN
				return
			}
			for began.Load() == 0 {
			}
			c.Stand(many)
		})
		want := map[int64]int64{1: many, many: many + 1}
		same(t, fmt.Sprint("P22.5: At behind a Stand, and a Next that told ", told), c.At(), want[told])
	}
}
