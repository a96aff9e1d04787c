package wal_test

import (
	"fmt"
	"math"
	"testing"

	"flume/api"
	"flume/disk"
	"flume/wal"
)

// A cursor may stand anywhere, and goes on from there by what it is told alone.
func TestFromAnywhere(t *testing.T) {
	x := lasting(t, changed(func(p *api.EngineParams) { p.Store.SegMax, p.QueueCap = 70, 8 }), 5)
	x.wants("First 3, Durable 6, Reserved 8", truncate(3), "0 ", async("r6"), "0 6", async("r7"), "0 7")
	for _, lsn := range []int64{math.MinInt64, math.MinInt64 + 1, -1, 0, 1, 2} {
		x.wants("P22.3: below First", stand(0, lsn), "0 ", next(0), "43 0 ", at(0), fmt.Sprint("0 ", lsn), next(0), "43 0 ")
	}
	for _, lsn := range []int64{8, 9, 1 << 40, math.MaxInt64} {
		x.wants("P22.3: not reserved", stand(0, lsn), "0 ", next(0), "42 0 ", at(0), fmt.Sprint("0 ", lsn), next(0), "42 0 ")
	}
	same(t, "P22.3: nothing was synced for it", fmt.Sprint(x.l.Look().Durable, x.l.Look().Held), "6 2")
	x.wants("P22.3: from First", stand(0, 3), "0 ", next(0), "0 3 r3", at(0), "0 4", next(0), "0 4 r4", next(0), "0 5 r5")
	same(t, "P22.3: what lasts needs no batch", fmt.Sprint(x.l.Look().Durable, x.l.Look().Held), "6 2")
	x.wants("P22.3: Next makes it last", at(0), "0 6", next(0), "0 6 r6", at(0), "0 7")
	same(t, "P22.3: with what goes in its batch", fmt.Sprint(x.l.Look().Durable, x.l.Look().Batches), "8 6")
	x.wants("P22.3", next(0), "0 7 r7", at(0), "0 8", next(0), "42 0 ", at(0), "0 8", async("r8"), "0 8", next(0), "0 8 r8", next(0), "42 0 ", at(0), "0 9")
	for _, lsn := range []int64{math.MinInt64, -1, 0, 3, 9, math.MaxInt64} {
		same(t, "P22.3: From, At", x.l.From(lsn).At(), lsn)
	}
}

// Next leads as many batches as it takes till its record lasts, and no more.
func TestNextMakesItLast(t *testing.T) {
	for _, k := range []struct {
		lsn     int64
		durable int64
	}{{1, 3}, {2, 3}, {3, 5}, {4, 5}, {5, 6}} {
		x := opened(t, changed(func(p *api.EngineParams) { p.QueueCap, p.Pace.Most = 8, 2 }))
		for i := range 5 {
			x.wants("AppendAsync", async(fmt.Sprint("r", i+1)), fmt.Sprint("0 ", i+1))
		}
		x.wants("P22.3", stand(1, k.lsn), "0 ", next(1), fmt.Sprintf("0 %d r%d", k.lsn, k.lsn), at(1), fmt.Sprint("0 ", k.lsn+1), at(0), "0 1")
		same(t, fmt.Sprint("P22.3: Durable behind Next of ", k.lsn), x.l.Look().Durable, k.durable)
	}
}

func TestStandToAndFro(t *testing.T) {
	x := lasting(t, params(), 4)
	c := x.l.From(2)
	for range 3 {
		for _, lsn := range []int64{4, 1, 3, 3, 2} {
			c.Stand(lsn)
			same(t, "P22.3: At", c.At(), lsn)
			rec, err := c.Next()
			same(t, "P22.3: Next", toldRecord(rec, err), fmt.Sprintf("0 %d r%d", lsn, lsn))
			same(t, "P22.3: At", c.At(), lsn+1)
			c.Stand(math.MinInt64)
			c.Stand(math.MaxInt64)
			same(t, "P22.3: At", c.At(), math.MaxInt64)
		}
	}
	x.wants("P22.3: Stand behind an error", stand(0, 9), "0 ", next(0), "42 0 ", stand(0, 4), "0 ", next(0), "0 4 r4", truncate(3), "0 ",
		stand(0, 2), "0 ", next(0), "43 0 ", at(0), "0 2", stand(0, 3), "0 ", next(0), "0 3 r3", at(0), "0 4")
}

// A cursor that the front passes is told so until it stands elsewhere.
func TestFrontPassesACursor(t *testing.T) {
	x := lasting(t, changed(func(p *api.EngineParams) { p.Store.SegMax = 64 }), 5)
	x.wants("P22.3", next(0), "0 1 r1", next(0), "0 2 r2", next(1), "0 1 r1", truncate(3), "0 ", next(0), "0 3 r3",
		next(1), "43 0 ", at(1), "0 2", next(1), "43 0 ", truncate(5), "0 ", next(0), "43 0 ", at(0), "0 4", stand(1, 5), "0 ", next(1), "0 5 r5", next(1), "42 0 ")
}

func TestTwoCursors(t *testing.T) {
	x := lasting(t, params(), 4)
	x.wants("P22.3: they go their own ways", next(0), "0 1 r1", next(0), "0 2 r2", next(1), "0 1 r1", stand(0, 4), "0 ", at(1), "0 2",
		next(1), "0 2 r2", next(0), "0 4 r4", next(0), "42 0 ", next(1), "0 3 r3", at(0), "0 5", stand(1, 1), "0 ", at(0), "0 5", next(1), "0 1 r1", at(1), "0 2")
	c, d := x.l.From(2), x.l.From(2)
	c.Next()
	same(t, "P22.3: two at one place", []any{c.At(), d.At()}, "[3 2]")
}

func TestNextBehindClose(t *testing.T) {
	x := lasting(t, params(), 3)
	x.wants("P22.3", next(0), "0 1 r1", async("r4"), "0 4", closes(), "0 ")
	for _, lsn := range []int64{math.MinInt64, 0, 1, 2, 4, 5, 6, math.MaxInt64} {
		x.wants("P22.3: closed", next(0), "41 0 ", at(0), "0 2", stand(1, lsn), "0 ", next(1), "41 0 ", at(1), fmt.Sprint("0 ", lsn))
	}
}

func TestNextBehindAFailure(t *testing.T) {
	x := lasting(t, changed(func(p *api.EngineParams) { p.QueueCap = 8 }), 3)
	x.wants("First 2, Durable 4, Reserved 7", truncate(2), "0 ", async("r4"), "0 4", async("r5"), "0 5", async("r6"), "0 6", stand(0, 4), "0 ")
	x.arm(api.Fault{At: 2, Kind: api.FaultIO})
	x.wants("P22.3: it fails as Next leads", next(0), "40 0 ", at(0), "0 4")
	same(t, "P22.5: Look", x.l.Look(), api.EngineLook{First: 2, Durable: 4, Reserved: 7, Batches: 3, Failed: true, Cause: api.ErrIO})
	for _, lsn := range []int64{4, 5, 6, 7, 8, math.MaxInt64} {
		x.wants("P22.3: failed: from Durable on", stand(0, lsn), "0 ", next(0), "40 0 ", at(0), fmt.Sprint("0 ", lsn))
	}
	for _, lsn := range []int64{math.MinInt64, -1, 0, 1} {
		x.wants("P22.3: failed: below First", stand(0, lsn), "0 ", next(0), "43 0 ", at(0), fmt.Sprint("0 ", lsn))
	}
	x.wants("P22.3: failed: what lasts", stand(0, 2), "0 ", next(0), "0 2 r2", next(0), "0 3 r3", next(0), "40 0 ", at(0), "0 4")
	x.wants("P22.3: closed behind it", closes(), "40 ", stand(0, 2), "0 ", next(0), "41 0 ", stand(0, 9), "0 ", next(0), "41 0 ")
}

// A Next whose batch had its record last by a roll, and failed at its end, is told the record.
func TestNextOfWhatARollMadeLast(t *testing.T) {
	x := opened(t, changed(func(p *api.EngineParams) { p.QueueCap, p.Store.SegMax = 8, 64 }))
	x.wants("AppendAsync", async("a"), "0 1", async("b"), "0 2", async("c"), "0 3")
	x.arm(api.Fault{At: 22, Kind: api.FaultIO}) // an Append, twice a roll with an Append, and then the Sync
	x.wants("P22.3", next(0), "0 1 a")
	same(t, "P22.5: Look", x.l.Look(), api.EngineLook{First: 1, Durable: 3, Reserved: 4, Failed: true, Cause: api.ErrIO})
	x.wants("P22.3", next(0), "0 2 b", next(0), "40 0 ", at(0), "0 3")
}

// Each record is told once, and in order, whatever is done between.
func TestACursorTellsAll(t *testing.T) {
	x := opened(t, changed(func(p *api.EngineParams) { p.Store.SegMax, p.QueueCap, p.Pace.Most = 100, 3, 2 }))
	told := int64(0)
	for i := int64(1); i <= 60; i++ {
		o := async(fmt.Sprint("r", i))
		if i%5 == 0 {
			o = app(fmt.Sprint("r", i))
		}
		x.wants("an append", o, fmt.Sprint("0 ", i))
		if i%7 == 0 {
			x.wants("the front, as far as the cursor", truncate(min(told, x.l.Look().Durable)), "0 ")
		}
		if i%3 == 0 {
			for n := i % 4; n >= 0 && told < i; n-- {
				told++
				x.wants("what follows", next(0), fmt.Sprintf("0 %d r%d", told, told))
			}
		}
	}
	for told < 60 {
		told++
		x.wants("what follows", next(0), fmt.Sprintf("0 %d r%d", told, told))
	}
	x.wants("what follows", next(0), "42 0 ")
}

// A cursor of a log that is not there, or that Open did not make.
func TestCursorsOfNoLog(t *testing.T) {
	var none *wal.Log
	for _, c := range []*wal.Cursor{none.From(5), new(wal.Log).From(5)} {
		for _, lsn := range []int64{5, 0, -1, math.MinInt64, math.MaxInt64} {
			c.Stand(lsn)
			for range 2 {
				rec, err := c.Next()
				same(t, "P22.6: Next", toldRecord(rec, err), "41 0 ")
				same(t, "P22.6: At", c.At(), lsn)
			}
		}
	}
	same(t, "P22.6: From", []any{none.From(-7).At(), new(wal.Log).From(math.MaxInt64).At()}, []any{-7, math.MaxInt64})
}

func TestNilCursor(t *testing.T) {
	var c *wal.Cursor
	for range 2 {
		rec, err := c.Next()
		same(t, "P22.6: Next", toldRecord(rec, err), "1 0 ")
		c.Stand(5)
		same(t, "P22.6: At", c.At(), 0)
	}
}

// The zero cursor is one of no log.
func TestZeroCursor(t *testing.T) {
	c := new(wal.Cursor)
	same(t, "P0.1: At", c.At(), 0)
	c.Stand(5)
	rec, err := c.Next()
	same(t, "P0.1: Next", toldRecord(rec, err), "41 0 ")
	same(t, "P0.1: At", c.At(), 5)
}

// A cursor goes on in the log from which it is, whatever happens in another one on the same disk.
func TestCursorsOfOtherLogs(t *testing.T) {
	d := disk.New(1 << 20)
	one, _, _ := wal.Open(d, params())
	one.Append([]byte("a"))
	c := one.From(1)
	two, _, _ := wal.Open(d, params())
	two.Append([]byte("b"))
	rec, err := c.Next()
	same(t, "Next", toldRecord(rec, err), "0 1 a")
	rec, err = c.Next()
	same(t, "Next", toldRecord(rec, err), "42 0 ")
	two.Close()
	rec, err = c.Next()
	same(t, "Next", toldRecord(rec, err), "42 0 ")
}
