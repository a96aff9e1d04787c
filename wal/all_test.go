package wal_test

import (
	"fmt"
	"iter"
	"math"
	"slices"
	"testing"

	"flume/api"
	"flume/disk"
	"flume/wal"
)

// some is a twin with First 3, Durable 6 and Reserved 8.
func some(t *testing.T) *twin {
	t.Helper()
	x := lasting(t, changed(func(p *api.EngineParams) { p.Store.SegMax, p.QueueCap = 70, 8 }), 5)
	x.wants("First 3, Durable 6, Reserved 8", truncate(3), "0 ", async("r6"), "0 6", async("r7"), "0 7")
	return x
}

func TestAll(t *testing.T) {
	x := some(t)
	ops := x.d.Count()
	for _, lsn := range []int64{math.MinInt64, -1, 0, 1, 2, 3} {
		x.wants("P22.4: from First on", all(lsn), "0 3 r3, 4 r4, 5 r5")
	}
	x.wants("P22.4: from the midst", all(4), "0 4 r4, 5 r5", all(5), "0 5 r5")
	for _, lsn := range []int64{6, 7, 8, 9, 1 << 40, math.MaxInt64} {
		x.wants("P22.4: from Durable on", all(lsn), "0 ")
	}
	same(t, "P22.4: what is reserved is not made last", []any{x.d.Count(), x.l.Look().Durable}, []any{ops, 6})
	x.wants("P22.4", syncs(), "0 ", all(6), "0 6 r6, 7 r7", truncate(8), "0 ", all(0), "0 ", all(8), "0 ")
	x.wants("P22.4: of a log that failed", app("r8"), "0 8", async("r9"), "0 9")
	x.arm(api.Fault{At: 1, Kind: api.FaultIO})
	x.wants("P22.4: of a log that failed", syncs(), "40 ", all(0), "0 8 r8", closes(), "40 ", all(0), "0 ")
}

// gone goes over a list, and does something at each record, up to the first at which that is false.
func gone(seq iter.Seq[api.Record], f func(rec api.Record) bool) string {
	var recs []api.Record
	for rec := range seq {
		recs = append(recs, rec)
		if !f(rec) {
			break
		}
	}
	return toldRecords(recs...)
}

func goesOn(api.Record) bool { return true }

func TestAllTwiceAndEndedEarly(t *testing.T) {
	x := some(t)
	seq := x.l.All(0)
	for range 3 {
		same(t, "P0.8: again", gone(seq, goesOn), "3 r3, 4 r4, 5 r5")
		same(t, "P0.8: ended early", gone(seq, func(rec api.Record) bool { return rec.LSN < 4 }), "3 r3, 4 r4")
		same(t, "P0.8: ended at once", gone(seq, func(api.Record) bool { return false }), "3 r3")
	}
	inner := ""
	outer := gone(seq, func(rec api.Record) bool {
		inner += gone(seq, func(in api.Record) bool { return in.LSN < rec.LSN }) + "; "
		return true
	})
	same(t, "P0.8: nested", outer+" / "+inner, "3 r3, 4 r4, 5 r5 / 3 r3; 3 r3, 4 r4; 3 r3, 4 r4, 5 r5; ")
	next, stop := iter.Pull(seq)
	a, _ := next()
	b, _ := next()
	same(t, "P0.8: pulled", toldRecords(a, b), "3 r3, 4 r4")
	stop()
	x.wants("it goes on", app("r8"), "0 8")
	seq(func(api.Record) bool { return false })
	same(t, "P0.8: never behind its end", gone(seq, goesOn), "3 r3, 4 r4, 5 r5, 6 r6, 7 r7, 8 r8")
}

// It tells what there is as it is gone over, not what there was as it was made.
func TestAllIsOfTheMoment(t *testing.T) {
	x := some(t)
	low, mid, high := x.l.All(0), x.l.All(5), x.l.All(8)
	same(t, "P22.4: made ahead", gone(high, goesOn), "")
	x.wants("then", app("r8"), "0 8", truncate(4), "0 ")
	same(t, "P22.4: what was appended", []string{gone(low, goesOn), gone(mid, goesOn), gone(high, goesOn)}, "[4 r4, 5 r5, 6 r6, 7 r7, 8 r8 5 r5, 6 r6, 7 r7, 8 r8 8 r8]")
	x.wants("then", truncate(7), "0 ")
	same(t, "P22.4: the front is above it", []string{gone(low, goesOn), gone(mid, goesOn), gone(high, goesOn)}, "[7 r7, 8 r8 7 r7, 8 r8 8 r8]")
	x.wants("then", closes(), "0 ")
	same(t, "P22.4: closed", []string{gone(low, goesOn), gone(mid, goesOn), gone(high, goesOn)}, "[  ]")
}

func TestCallsWhileAllIsGoneOver(t *testing.T) {
	x := some(t)
	same(t, "P22.4: with records appended", gone(x.l.All(4), func(rec api.Record) bool {
		if rec.LSN < 9 {
			lsn := x.l.Look().Reserved
			x.wants("Append", app(fmt.Sprint("r", lsn)), fmt.Sprint("0 ", lsn))
		}
		return true
	}), "4 r4, 5 r5, 6 r6, 7 r7, 8 r8, 9 r9, 10 r10, 11 r11, 12 r12")
	same(t, "P22.4: with records that do not last", gone(x.l.All(11), func(rec api.Record) bool {
		x.wants("AppendAsync", async("more"), fmt.Sprint("0 ", rec.LSN+2))
		return true
	}), "11 r11, 12 r12")

	x = lasting(t, params(), 9)
	same(t, "P22.4: with the front cut behind it", gone(x.l.All(0), func(rec api.Record) bool {
		x.wants("TruncateFront", truncate(rec.LSN+1), "0 ")
		return true
	}), "1 r1, 2 r2, 3 r3, 4 r4, 5 r5, 6 r6, 7 r7, 8 r8, 9 r9")
	x = lasting(t, params(), 9)
	same(t, "P22.4: with the front cut ahead of it", gone(x.l.All(0), func(rec api.Record) bool {
		x.wants("TruncateFront", truncate(min(7, rec.LSN*2)), "0 ")
		return true
	}), "1 r1, 2 r2")
	x = lasting(t, params(), 9)
	same(t, "P22.4: closed", gone(x.l.All(0), func(rec api.Record) bool {
		if rec.LSN == 3 {
			x.wants("Close", closes(), "0 ")
		}
		return true
	}), "1 r1, 2 r2, 3 r3")
	x = lasting(t, params(), 9)
	same(t, "P22.4: failed", gone(x.l.All(7), func(rec api.Record) bool {
		if rec.LSN == 7 {
			x.arm(api.Fault{At: 1, Kind: api.FaultPanic})
			x.wants("Append", app("x"), "40 0")
		}
		return true
	}), "7 r7, 8 r8, 9 r9")
	x = lasting(t, params(), 9)
	same(t, "P22.4: the disk's error", gone(x.l.All(7), func(rec api.Record) bool {
		if rec.LSN == 8 {
			x.arm(api.Fault{At: 1, Kind: api.FaultPower})
			x.wants("Append", app("x"), "40 0")
		}
		return true
	}), "7 r7, 8 r8")
}

func TestAllWithACursor(t *testing.T) {
	x := lasting(t, params(), 5)
	c := x.l.From(1)
	same(t, "P22.4", gone(x.l.All(3), func(rec api.Record) bool {
		got, err := c.Next()
		same(t, "P22.3: Next", toldRecord(got, err), fmt.Sprintf("0 %d r%d", rec.LSN-2, rec.LSN-2))
		return true
	}), "3 r3, 4 r4, 5 r5")
	same(t, "P22.3: At", c.At(), 4)
}

// Who goes over it may panic: the log goes on.
func TestPanicWhileAllIsGoneOver(t *testing.T) {
	x := lasting(t, params(), 3)
	func() {
		defer func() { same(t, "recovered", recover(), "out of it") }()
		for range x.l.All(0) {
			panic("out of it")
		}
	}()
	x.wants("the log is not held", app("r4"), "0 4", all(3), "0 3 r3, 4 r4")
}

func TestAllOfNoLog(t *testing.T) {
	var none *wal.Log
	for _, l := range []*wal.Log{none, new(wal.Log)} {
		for _, lsn := range []int64{math.MinInt64, 0, 1, math.MaxInt64} {
			seq := l.All(lsn)
			same(t, "P0.8: it is there", seq != nil, true)
			same(t, "P22.6: no record", len(slices.Collect(seq))+len(slices.Collect(seq)), 0)
		}
	}
}

// Many records, over many segments.
func TestAllOfMany(t *testing.T) {
	l, _, err := wal.Open(disk.New(1<<24), changed(func(p *api.EngineParams) {
		p.Store.SegMax, p.QueueCap, p.QueueBytes = 4096, 100, 1<<20
	}))
	same(t, "Open", err, api.OK)
	const many = 3000
	for i := range many {
		l.AppendAsync(fmt.Appendf(nil, "%x", i*i))
	}
	same(t, "Sync", l.Sync(), api.OK)
	lsn := int64(0)
	for rec := range l.All(math.MinInt64) {
		lsn++
		same(t, "P22.4", toldRecords(rec), fmt.Sprintf("%d %x", lsn, (lsn-1)*(lsn-1)))
	}
	same(t, "P22.4: all", lsn, many)
}
