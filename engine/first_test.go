package engine_test

import (
	"fmt"
	"math"
	"strings"
	"testing"

	"flume/api"
	"flume/catalog"
	"flume/disk"
	"flume/segment"
)

func long(n int) string { return strings.Repeat("x", n) }

// outcome is a call that is begun, makes its first step, and is to be told so.
type outcome struct {
	c    api.Call
	want string
}

func (x *twin) outcomes(what string, l ...outcome) {
	x.t.Helper()
	for _, o := range l {
		x.call(o.c)
		x.want(what, map[int]string{len(x.p.calls): o.want})
	}
}

// both are an Append and an Async of data, each with what comes of it.
func both(data, wantApp, wantAsync string) []outcome {
	return []outcome{{app(data), wantApp}, {async(data), wantAsync}}
}

// A record has at most 4,096 bytes, its frame at most QueueBytes.
func TestSizes(t *testing.T) {
	for _, k := range []struct {
		bytes int
		most  int // of a record
	}{{1, -1}, {15, -1}, {16, 0}, {17, 1}, {100, 84}, {1000, 984}, {4111, 4095}, {4112, 4096}, {4113, 4096}, {5000, 4096}, {1 << 24, 4096}} {
		for _, n := range []int{0, 1, k.most, k.most + 1, k.most + 2, 4095, 4096, 4097, 4098, 70000} {
			for i, kind := range []int{api.CallAppend, api.CallAsync} {
				x := opened(t, changed(func(p *api.EngineParams) { p.QueueBytes, p.Store.Base = k.bytes, 8 }))
				x.call(api.Call{Kind: kind, Data: make([]byte, max(n, 0))})
				want := []string{"in 3", "0 8 "}[i]
				if n = max(n, 0); n > k.most {
					want = "3 0 "
				}
				x.want(fmt.Sprintf("P21.3: %d bytes, QueueBytes %d", n, k.bytes), map[int]string{1: want})
				same(t, "a record that is refused has no LSN", x.e.Look().Reserved == 9, n <= k.most)
			}
		}
	}
}

// The bytes of a great record are those that are read.
func TestGreatRecord(t *testing.T) {
	x := opened(t, changed(func(p *api.EngineParams) { p.QueueBytes = 4112 }))
	data := strings.Repeat("0123456789abcdef", 256)
	same(t, "Append", x.alone(app(data)), "0 1 ")
	same(t, "Async", x.alone(async(data[1:])), "0 2 ")
	same(t, "Append", x.alone(app("")), "0 3 ")
	same(t, "Read", []string{x.alone(read(1)), x.alone(read(2)), x.alone(read(3))}, []string{"0 1 " + data, "0 2 " + data[1:], "0 3 "})
}

// The last LSN is 2^63 - 2.
func TestLastLSN(t *testing.T) {
	const last = math.MaxInt64 - 1
	x := opened(t, changed(func(p *api.EngineParams) { p.Store.Base = last }))
	x.call(app("a"))
	same(t, "Reserved", x.e.Look().Reserved, int64(math.MaxInt64))
	x.outcomes("P21.3: ErrEnd", both("b", "44 0 ", "44 0 ")...)
	x.outcomes("P21.3: ErrLong ahead of ErrEnd", both(long(4097), "3 0 ", "3 0 ")...)
	x.outcomes("P21.3: ErrLong ahead of ErrEnd", both(long(985), "3 0 ", "3 0 ")...)
	x.outcomes("P21.3: waiting for the last one", outcome{syncs(), "in 3"}, outcome{next(last), "in 4"}, outcome{next(math.MaxInt64), "in 4"})
	x.step(8, 8, 8, 8, 8, 1, 9)
	x.want("the last one", map[int]string{1: fmt.Sprintf("0 %d ", last), 8: "0 0 ", 9: fmt.Sprintf("0 %d a", last)})
	x.wantReady("no LSN is left")
	x.outcomes("P21.3: ErrEnd", both("b", "44 0 ", "44 0 ")...)
	same(t, "cut to the end", x.alone(truncate(math.MaxInt64)), "0 0 ")
	x.outcomes("the end", outcome{read(last), "43 0 "}, outcome{read(math.MaxInt64), "42 0 "}, outcome{syncs(), "0 0 "}, outcome{closes(), "0 0 "})
	x.step(10)
	x.want("woken by the Close", map[int]string{10: "41 0 "})

	x = opened(t, changed(func(p *api.EngineParams) { p.Store.Base = math.MaxInt64 }))
	x.outcomes("P21.3: no LSN at all", both("", "44 0 ", "44 0 ")...)
	x.outcomes("P21.3: no LSN at all", outcome{syncs(), "0 0 "}, outcome{next(math.MaxInt64), "in 4"}, outcome{closes(), "0 0 "})
}

// lined is a twin whose queue holds one, while so many stand in line, the last of them with the LSN last.
func lined(t *testing.T, many int, last int64) *twin {
	t.Helper()
	x := opened(t, changed(func(p *api.EngineParams) { p.QueueCap, p.Store.Base = 1, last-int64(many) }))
	for i := range many + 1 {
		// Not through the twin, which looks at all of them each time.
		id, _ := x.e.Begin(async("x"))
		x.p.begin(async("x"))
		if x.e.Step(id) != api.OK {
			t.Fatal("no step of ", id)
		}
		x.p.step(id)
		if state := x.e.State(id); state != []int{api.StateDone, api.StateLine}[min(i, 1)] {
			t.Fatalf("P21.3: the record %d is in %d", i, state)
		}
	}
	x.alike(did{what: "lined"})
	return x
}

// 1,024 may stand in line.
func TestLineIsFull(t *testing.T) {
	x := lined(t, 1023, 2000)
	x.call(app("the last one"))
	x.want("P21.3: behind 1,023", map[int]string{1025: "in 2"})
	same(t, "Look", fmt.Sprint(x.e.Look().Line, x.e.Look().Reserved), "1024 2002")
	x.outcomes("P21.3: behind 1,024", both("y", "9 0 ", "9 0 ")...)
	x.outcomes("P21.3: ErrLong ahead of ErrMany", both(long(4097), "3 0 ", "3 0 ")...)
	x.outcomes("P21.3: ErrLong ahead of ErrMany", both(long(985), "3 0 ", "3 0 ")...)
	same(t, "Reserved", x.e.Look().Reserved, 2002)
	x.outcomes("others find room", outcome{syncs(), "in 3"}, outcome{truncate(1), "0 0 "}, outcome{next(2001), "in 4"})
	x.step(1025, 1025) // it leads from the line's end, and takes one
	same(t, "Look", fmt.Sprint(x.e.Look().Line, x.e.State(1025)), "1023 7")
	x.outcomes("P21.3: room for one", both("y", "in 2", "9 0 ")...)
	same(t, "Reserved", x.e.Look().Reserved, 2003)

	x = lined(t, 1024, math.MaxInt64-1)
	x.outcomes("P21.3: ErrEnd ahead of ErrMany", both("y", "44 0 ", "44 0 ")...)
	x.outcomes("P21.3: ErrLong ahead of both", both(long(985), "3 0 ", "3 0 ")...)
	x.arm(api.Fault{At: 1, Kind: api.FaultIO})
	x.step(2, 2, 2)
	x.outcomes("P21.3: ErrFailed ahead of all these", both("y", "40 0 ", "40 0 ")...)
	x.outcomes("P21.3: ErrFailed ahead of all these", both(long(985), "40 0 ", "40 0 ")...)
	x.call(closes())
	x.outcomes("P21.3: ErrClosed ahead of all", both("y", "41 0 ", "41 0 ")...)
	x.outcomes("P21.3: ErrClosed ahead of all", both(long(5000), "41 0 ", "41 0 ")...)

	x = lined(t, 1024, math.MaxInt64-1)
	x.call(closes())
	x.outcomes("P21.3: ErrClosed ahead of these", both("y", "41 0 ", "41 0 ")...)
	x.outcomes("P21.3: ErrClosed ahead of these", both(long(985), "41 0 ", "41 0 ")...)
	x.want("it was not failed", map[int]string{1026: "in 3"})
}

// With room a record comes in, without it stands in line.
func TestRoom(t *testing.T) {
	x := opened(t, changed(func(p *api.EngineParams) { p.QueueCap, p.QueueBytes = 3, 100 }))
	x.outcomes("P21.3: with room", outcome{app(long(10)), "in 3"}, outcome{async(long(20)), "0 2 "})
	x.outcomes("P21.3: 62 bytes are held", outcome{async(long(23)), "in 2"}, outcome{async(""), "in 2"}, outcome{app(""), "in 2"})
	same(t, "P21.4: Look", x.e.Look(), api.EngineLook{First: 1, Durable: 1, Reserved: 6, Held: 2, HeldBytes: 62, Line: 3})
	x = opened(t, changed(func(p *api.EngineParams) { p.QueueCap, p.QueueBytes = 3, 100 }))
	x.outcomes("P21.3: with room", outcome{app(long(10)), "in 3"}, outcome{async(long(20)), "0 2 "}, outcome{async(long(22)), "0 3 "})
	x.outcomes("P21.3: as many as may be", outcome{async(""), "in 2"}, outcome{app(""), "in 2"})
	same(t, "P21.4: Look", x.e.Look(), api.EngineLook{First: 1, Durable: 1, Reserved: 6, Held: 3, HeldBytes: 100, Line: 2})
}

// lasting is a twin with so many records that last.
func lasting(t *testing.T, ps api.EngineParams, many int) *twin {
	t.Helper()
	x := opened(t, ps)
	for i := range many {
		same(t, "Append", x.alone(app(fmt.Sprint("r", i+1))), fmt.Sprintf("0 %d ", i+1))
	}
	return x
}

// fails has a twin fail by an Append that leads, of the cause ErrIO.
func (x *twin) fails() {
	x.t.Helper()
	x.arm(api.Fault{At: 1, Kind: api.FaultIO})
	id := x.begin(app("lost"))
	x.step(id, id, id, id, id)
	if l := x.e.Look(); !l.Failed || l.Cause != api.ErrIO {
		x.wrong("it is to fail", l, api.ErrIO)
	}
}

func TestSync(t *testing.T) {
	x := opened(t, changed(func(p *api.EngineParams) { p.Pace.Most = 2 }))
	ops := x.d.Count()
	x.outcomes("P21.3: Durable is Reserved", outcome{syncs(), "0 0 "})
	same(t, "no operation", x.d.Count(), ops)
	x.call(async("a"), async("b"))
	x.outcomes("P21.3: Durable is below it", outcome{syncs(), "in 3"})
	x.call(async("c"))
	x.outcomes("P21.3: Durable is below it", outcome{syncs(), "in 3"})
	x.step(4, 4, 4, 4, 4)
	x.want("all that was reserved ahead lasts", map[int]string{4: "0 0 ", 6: "in 3"})
	x.outcomes("P21.3: the third does not last", outcome{syncs(), "in 3"})
	x.step(6, 6, 6, 6)
	x.outcomes("P21.3: all lasts", outcome{syncs(), "0 0 "})
	x.step(6, 7)
	x.want("all lasts", map[int]string{6: "0 0 ", 7: "0 0 "})
	x.fails()
	x.outcomes("P21.3: failed", outcome{syncs(), "40 0 "})
	x.call(closes())
	x.outcomes("P21.3: ErrClosed ahead of ErrFailed", outcome{syncs(), "41 0 "})
}

// In a log that was closed with all durable a Sync is ErrClosed all the same.
func TestSyncClosing(t *testing.T) {
	x := lasting(t, params(), 1)
	x.call(closes())
	x.outcomes("P21.3: closed", outcome{syncs(), "41 0 "})
	x = lasting(t, params(), 1)
	x.call(async("a"), closes())
	x.outcomes("P21.3: closing", outcome{syncs(), "41 0 "}, outcome{closes(), "41 0 "}, outcome{truncate(1), "41 0 "}, outcome{next(1), "41 0 "}, outcome{read(1), "41 0 "}, outcome{app("b"), "41 0 "})
}

// readings are what Read and Next tell of a log with First 3 and Durable 6.
func (x *twin) readings(what string, waits string) {
	x.t.Helper()
	for _, lsn := range []int64{math.MinInt64, -1, 0, 1, 2} {
		x.outcomes(what+": below First", outcome{read(lsn), "43 0 "}, outcome{next(lsn), "43 0 "})
	}
	for _, lsn := range []int64{3, 4, 5} {
		want := fmt.Sprintf("0 %d r%d", lsn, lsn)
		x.outcomes(what+": from First to Durable - 1", outcome{read(lsn), want}, outcome{next(lsn), want})
	}
	for _, lsn := range []int64{6, 7, 8, math.MaxInt64} {
		x.outcomes(what+": from Durable on", outcome{read(lsn), "42 0 "}, outcome{next(lsn), waits})
	}
}

func TestReadAndNext(t *testing.T) {
	x := lasting(t, changed(func(p *api.EngineParams) { p.Store.SegMax = 70 }), 5)
	same(t, "Truncate", x.alone(truncate(3)), "0 0 ")
	ops := x.d.Count()
	x.readings("P21.3", "in 4")
	x.call(async("r6"), async("r7"), async("r8"))
	x.readings("P21.3: with some that are reserved", "in 4")
	id := x.begin(syncs())
	x.step(id)
	for range 3 {
		x.step(id)
		if x.e.State(id) != api.StateFlush { // a roll may have some of them last
			x.readings("P21.3: with a leader", "in 4")
		}
	}
	same(t, "it is written and not synced", fmt.Sprint(x.e.State(id), x.d.Count() != ops), "8 true")
	ops = x.d.Count()
	for _, lsn := range []int64{3, 4, 5} {
		x.outcomes("P21.3: ahead of the Sync", outcome{read(lsn), fmt.Sprintf("0 %d r%d", lsn, lsn)})
	}
	x.outcomes("P21.3: ahead of the Sync", outcome{read(8), "42 0 "}, outcome{next(8), "in 4"})
	same(t, "reading is no operation", x.d.Count(), ops)
}

func TestReadAndNextOfAFailedLog(t *testing.T) {
	x := lasting(t, params(), 5)
	same(t, "Truncate", x.alone(truncate(3)), "0 0 ")
	x.fails()
	x.readings("P21.3: failed", "in 4")
	x.call(closes())
	for _, lsn := range []int64{math.MinInt64, 0, 2, 3, 5, 6, 7, math.MaxInt64} {
		x.outcomes("P21.3: closed", outcome{read(lsn), "41 0 "}, outcome{next(lsn), "41 0 "})
	}
}

func TestReadAndNextOfAClosingLog(t *testing.T) {
	x := lasting(t, params(), 5)
	same(t, "Truncate", x.alone(truncate(3)), "0 0 ")
	x.call(async("a"), closes())
	for _, leads := range [][]int{{8}, {8}, {8}, {8}, {8}, nil} { // from what is not begun to the end of its batch
		for _, lsn := range []int64{math.MinInt64, 0, 2, 3, 5, 6, 7, math.MaxInt64} {
			x.outcomes("P21.3: closing", outcome{read(lsn), "41 0 "}, outcome{next(lsn), "41 0 "})
		}
		x.step(leads...)
	}
	same(t, "the Close is done", x.told(8), "0 0 ")
}

// The store's errors are those of a Read, and of a Next that is told at once.
func TestReadErrors(t *testing.T) {
	x := lasting(t, params(), 2)
	x.arm(api.Fault{At: 1, Kind: api.FaultPower})
	x.d.SyncDir()
	x.p.d.SyncDir()
	x.outcomes("P21.3: the disk is down", outcome{read(1), "22 0 "}, outcome{next(2), "22 0 "}, outcome{read(3), "42 0 "}, outcome{next(0), "43 0 "})
	same(t, "it has not failed", x.e.Look().Failed, false)
	x = lasting(t, params(), 2)
	for _, d := range []*disk.Disk{x.d, x.p.d} {
		d.Cut("seg-0000000000000001.log", 40)
	}
	x.call(read(1), next(2))
	same(t, "P21.3: spoilt beneath", x.told(3)[:2] != "0 " && x.told(4)[:2] != "0 ", true)
}

func TestTruncate(t *testing.T) {
	x := lasting(t, changed(func(p *api.EngineParams) { p.Store.SegMax = 64 }), 5)
	ops := x.d.Count()
	for _, lsn := range []int64{math.MinInt64, -1, 0, 1} {
		x.outcomes("P21.3: at most First", outcome{truncate(lsn), "0 0 "})
	}
	x.call(async("a"))
	for _, lsn := range []int64{7, 8, math.MaxInt64} {
		x.outcomes("P21.3: above Durable", outcome{truncate(lsn), "8 0 "})
	}
	same(t, "no operation", x.d.Count(), ops)
	x.outcomes("P21.3: done", outcome{truncate(3), "0 0 "})
	same(t, "Look", fmt.Sprint(x.e.Look().First, x.e.Look().Failed), "3 false")
	x.outcomes("P21.3: done", outcome{truncate(6), "0 0 "}, outcome{truncate(6), "0 0 "}, outcome{truncate(7), "8 0 "}, outcome{truncate(5), "0 0 "})
	same(t, "Look", fmt.Sprint(x.e.Look().First, x.e.Look().Failed), "6 false")
	x.fails()
	x.outcomes("P21.3: failed", outcome{truncate(0), "40 0 "}, outcome{truncate(6), "40 0 "}, outcome{truncate(99), "40 0 "})
	x.call(closes())
	x.outcomes("P21.3: ErrClosed ahead of ErrFailed", outcome{truncate(0), "41 0 "})
}

// A catalog that can't be written once more: ErrMany, and the log goes on.
func TestTruncateOfTooMany(t *testing.T) {
	d := disk.New(1 << 20)
	seg := api.Seg{Num: 1, Base: 5}
	s, _ := segment.Create(d, "seg-0000000000000001.log", api.Head{Num: 1, Base: 5})
	s.Put([]byte("a"), []byte("b"))
	s.Sync()
	b, err := catalog.Write(api.Catalog{Gen: math.MaxInt64, First: 5, Segs: []api.Seg{seg}})
	same(t, "a catalog", err, api.OK)
	d.Create("catalog")
	d.Append("catalog", b)
	d.Sync("catalog")
	d.SyncDir()
	x := over(t, d, params())
	x.outcomes("P21.3: the store's answer", outcome{truncate(6), "9 0 "}, outcome{truncate(5), "0 0 "}, outcome{truncate(8), "8 0 "})
	same(t, "it has not failed", x.e.Look(), api.EngineLook{First: 5, Durable: 7, Reserved: 7})
	same(t, "it goes on", []string{x.alone(app("c")), x.alone(read(5))}, "[0 7  0 5 a]")
}

func TestClose(t *testing.T) {
	x := lasting(t, params(), 1)
	ops := x.d.Count()
	x.outcomes("P21.3: nothing to wait for", outcome{closes(), "0 0 "})
	same(t, "Look", x.e.Look(), api.EngineLook{First: 1, Durable: 2, Reserved: 2, Batches: 1, Closing: true, Closed: true})
	x.outcomes("P21.3: twice", outcome{closes(), "41 0 "}, outcome{closes(), "41 0 "})
	same(t, "no operation", x.d.Count(), ops)
	x.wantReady("all are done")

	x = lasting(t, params(), 1)
	x.call(app("a"), async("b"))
	x.outcomes("P21.3: it waits", outcome{closes(), "in 3"}, outcome{closes(), "41 0 "})
	same(t, "Look", fmt.Sprint(x.e.Look().Closing, x.e.Look().Closed), "true false")
	x.step(2, 2, 2, 2)
	same(t, "Look", fmt.Sprint(x.e.Look().Closing, x.e.Look().Closed, x.e.Look().Durable), "true false 4")
	x.step(4)
	x.want("all lasts", map[int]string{4: "0 0 "})
	same(t, "Look", fmt.Sprint(x.e.Look().Closing, x.e.Look().Closed), "true true")
	x.step(2)
	x.want("all lasts", map[int]string{2: "0 2 "})

	x = lasting(t, params(), 1)
	x.fails()
	x.outcomes("P21.3: failed", outcome{closes(), "40 0 "})
	same(t, "Look", x.e.Look(), api.EngineLook{First: 1, Durable: 2, Reserved: 3, Batches: 1, Failed: true, Closing: true, Closed: true, Cause: api.ErrIO})
	x.outcomes("P21.3: twice", outcome{closes(), "41 0 "})
	x.want("lost", map[int]string{2: "40 2 "})
}

// A Close waits for what was reserved ahead of it alone; behind it nothing is.
func TestCloseThatWaitsFails(t *testing.T) {
	x := lasting(t, params(), 1)
	x.call(app("a"), closes(), next(1))
	x.want("closing", map[int]string{4: "41 0 "})
	x.arm(api.Fault{At: 2, Kind: api.FaultIO})
	x.step(2, 2, 2, 2) // the Append leads, and fails
	x.want("failed", map[int]string{2: "in 3", 3: "in 3"})
	same(t, "Look", fmt.Sprint(x.e.Look().Failed, x.e.Look().Closed), "true false")
	x.outcomes("P21.3: ErrClosed ahead of ErrFailed", outcome{app("b"), "41 0 "}, outcome{syncs(), "41 0 "}, outcome{truncate(1), "41 0 "}, outcome{closes(), "41 0 "}, outcome{read(1), "41 0 "}, outcome{next(0), "41 0 "})
	x.step(3)
	x.want("P21.3: the Close", map[int]string{3: "40 0 "})
	same(t, "Look", fmt.Sprint(x.e.Look().Failed, x.e.Look().Closed), "true true")
}
