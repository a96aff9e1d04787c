package wal_test

import (
	"fmt"
	"slices"
	"testing"

	"flume/api"
	"flume/disk"
	"flume/wal"
)

// fill writes over a list, its spare room too.
func fill(l []byte) {
	l = l[:cap(l)]
	for i := range l {
		l[i] = '!'
	}
}

// Data that is written over behind a call is what it was in the log: in the queue, and once it is written.
func TestDataIsNotKept(t *testing.T) {
	x := opened(t, params())
	data := make([]byte, 0, 20)
	for i, write := range []func([]byte) (int64, api.Errno){x.l.Append, x.l.AppendAsync, x.l.AppendAsync, x.l.AppendAsync, x.l.Append} {
		data = fmt.Append(data[:0], "data", i)
		lsn, err := write(data)
		same(t, "P22.2", toldLSN(lsn, err), fmt.Sprint("0 ", i+1))
		fill(data)
	}
	for i := range 5 {
		rec, err := x.l.Read(int64(i + 1))
		same(t, "P22.6: what is handed in is not kept", toldRecord(rec, err), fmt.Sprintf("0 %d data%d", i+1, i))
	}
}

// Data that is handed in is as it was, its spare room too.
func TestDataStays(t *testing.T) {
	x := opened(t, params())
	room := []byte("abcdefgh")
	x.l.Append(room[2:4])
	x.l.AppendAsync(room[2:4])
	x.l.AppendAsync(room[:0])
	x.l.Append(room[3:5])
	same(t, "the records", toldRecords(slices.Collect(x.l.All(0))...), "1 cd, 2 cd, 3 , 4 de")
	same(t, "P22.6: what is handed in is not changed", string(room), "abcdefgh")
}

// What is answered is new memory: who writes over it, or appends to it, changes nothing.
func TestAnswersAreNewMemory(t *testing.T) {
	x := lasting(t, params(), 2)
	x.l.AppendAsync([]byte("r3"))
	x.l.AppendAsync([]byte("r4"))
	c := x.l.From(3)
	for range 3 {
		var recs []api.Record
		for _, lsn := range []int64{1, 2, 1} {
			rec, _ := x.l.Read(lsn)
			recs = append(recs, rec)
		}
		for _, lsn := range []int64{3, 4, 3, 1} {
			c.Stand(lsn)
			rec, _ := c.Next()
			recs = append(recs, rec)
		}
		recs = slices.AppendSeq(recs, x.l.All(0))
		recs = slices.AppendSeq(recs, x.l.All(0))
		for i := range recs {
			same(t, "P22.6: none was written over", toldRecords(recs[i:]...), toldRecords([]api.Record{
				{LSN: 1, Data: []byte("r1")}, {LSN: 2, Data: []byte("r2")}, {LSN: 1, Data: []byte("r1")},
				{LSN: 3, Data: []byte("r3")}, {LSN: 4, Data: []byte("r4")}, {LSN: 3, Data: []byte("r3")}, {LSN: 1, Data: []byte("r1")},
				{LSN: 1, Data: []byte("r1")}, {LSN: 2, Data: []byte("r2")}, {LSN: 3, Data: []byte("r3")}, {LSN: 4, Data: []byte("r4")},
				{LSN: 1, Data: []byte("r1")}, {LSN: 2, Data: []byte("r2")}, {LSN: 3, Data: []byte("r3")}, {LSN: 4, Data: []byte("r4")},
			}[i:]...))
			_ = append(recs[i].Data, "more"...)
			fill(recs[i].Data)
		}
	}
	var all []api.Record
	for rec := range x.l.All(0) {
		fill(rec.Data)
		rec.LSN = 77 // it goes on from its own
		all = append(all, rec)
	}
	same(t, "P22.4: written over as it is gone over", toldRecords(all...), "77 !!, 77 !!, 77 !!, 77 !!")
	same(t, "P22.6: nothing has changed", toldRecords(slices.Collect(x.l.All(0))...), "1 r1, 2 r2, 3 r3, 4 r4")
}

// Calls of a log that is not there, and of one that Open did not make.
func TestNoLog(t *testing.T) {
	var none *wal.Log
	for range 2 {
		for _, l := range []*wal.Log{none, new(wal.Log)} {
			for _, data := range [][]byte{nil, {}, []byte("a"), make([]byte, 5000)} {
				same(t, "P22.6: Append", toldLSN(l.Append(data)), "41 0")
				same(t, "P22.6: AppendAsync", toldLSN(l.AppendAsync(data)), "41 0")
			}
			for _, lsn := range []int64{-1 << 63, -1, 0, 1, 2, 1<<63 - 1} {
				same(t, "P22.6: Read", toldRecord(l.Read(lsn)), "41 0 ")
				same(t, "P22.6: TruncateFront", l.TruncateFront(lsn), api.ErrClosed)
			}
			same(t, "P22.6", []any{l.Sync(), l.Close(), l.Close()}, []any{api.ErrClosed, api.ErrClosed, api.ErrClosed})
			same(t, "P22.6: Look", l.Look(), api.EngineLook{})
		}
	}
}

// The same calls on two disks tell the same, and leave the same.
func TestTheSameTwice(t *testing.T) {
	var told [2]string
	for i := range told {
		d := disk.New(1 << 20)
		l, _, _ := wal.Open(d, changed(func(p *api.EngineParams) { p.Store.SegMax, p.Pace.Linger = 80, 0.1 }))
		c := l.From(2)
		for n := range 20 {
			lsn, err := l.AppendAsync(fmt.Append(nil, n))
			rec, errNext := c.Next()
			told[i] += toldLSN(lsn, err) + toldRecord(rec, errNext) + fmt.Sprint(l.TruncateFront(int64(n/2)))
		}
		told[i] += fmt.Sprint(l.Look(), d.Files(), d.Count())
	}
	same(t, "P0.5", told[0], told[1])
}
