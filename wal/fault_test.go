package wal_test

import (
	"fmt"
	"math"
	"strings"
	"testing"

	"flume/api"
	"flume/disk"
	"flume/wal"
)

// scene is a call that does operations of the disk.
type scene struct {
	what string
	ps   api.EngineParams
	o    op
	ops  string // all of them
	cut  int    // from this operation on the front is cut all the same; 0: never
}

const (
	catalogOps = "Create Append Sync Rename SyncDir"
	rollOps    = "Sync Create Append Sync " + catalogOps
)

// crowd is a log in which 1 and 2 last and 3 to 5 are reserved, three being all that the queue holds; a cursor stands at 3.
func crowd(t *testing.T, ps api.EngineParams) *twin {
	t.Helper()
	x := lasting(t, ps, 2)
	x.wants("the crowd", async("c"), "0 3", async("d"), "0 4", async("e"), "0 5", stand(0, 3), "0 ")
	same(t, "the crowd", fmt.Sprint(x.l.Look().Held, x.l.Look().Durable), "3 3")
	return x
}

func scenes() []scene {
	ps := func(segMax, most int) api.EngineParams {
		return changed(func(p *api.EngineParams) { p.Store.SegMax, p.QueueCap, p.Pace.Most = segMax, 3, most })
	}
	rolls := strings.Join([]string{rollOps, "Append", rollOps, "Append", rollOps, "Append Sync"}, " ")
	return []scene{
		{"Append, with a batch to make room", ps(4096, 8), app("f"), "Append Sync Append Sync", 0},
		{"Append, three batches", ps(4096, 2), app("f"), "Append Sync Append Sync", 0},
		{"AppendAsync, for which there is no room", ps(4096, 2), async("f"), "Append Sync", 0},
		{"Sync", ps(4096, 8), syncs(), "Append Sync", 0},
		{"Sync, three batches", ps(4096, 1), syncs(), "Append Sync Append Sync Append Sync", 0},
		{"Sync with rolls", ps(64, 8), syncs(), rolls, 0},
		{"Next", ps(4096, 8), next(0), "Append Sync", 0},
		{"Close", ps(4096, 8), closes(), "Append Sync", 0},
		{"Close with rolls", ps(64, 8), closes(), rolls, 0},
		{"TruncateFront with none to remove", ps(4096, 8), truncate(2), catalogOps, 6},
		{"TruncateFront with one to remove", ps(64, 8), truncate(2), catalogOps + " Remove SyncDir", 6},
	}
}

// causeOf is the error of an operation that a fault of that kind befalls; OK, if it is done all the same.
func causeOf(kind int, operation string) api.Errno {
	switch kind {
	case api.FaultIO:
		return api.ErrIO
	case api.FaultPower:
		return api.ErrDown
	case api.FaultPanic:
		return api.ErrPanic
	}
	if operation == "Create" || operation == "Append" {
		return api.ErrFull
	}
	return api.OK
}

// Each operation of each call that does some, with a fault of each kind.
func TestFaults(t *testing.T) {
	for _, s := range scenes() {
		ops := strings.Fields(s.ops)
		x := crowd(t, s.ps)
		was := x.d.Count().All
		same(t, s.what, x.do(s.o)[:2], "0 ")
		same(t, "the operations: "+s.what, x.d.Count().All-was, len(ops))
		for i, operation := range ops {
			for kind := api.FaultIO; kind <= api.FaultPanic; kind++ {
				for _, part := range []int{0, 5, 1000} {
					if operation == "Append" || part == 0 {
						s.fails(t, api.Fault{At: int64(i + 1), Kind: kind, Part: part}, causeOf(kind, operation))
					}
				}
			}
		}
	}
}

// failed is what a call answers that has failed.
func (o op) failed() string {
	switch o.what {
	case "Append", "AppendAsync":
		return "40 0"
	case "Next", "From.Next":
		return "40 0 "
	}
	return "40 "
}

func (s scene) fails(t *testing.T, f api.Fault, cause api.Errno) {
	t.Helper()
	what := fmt.Sprintf("%s, fault %+v", s.what, f)
	x := crowd(t, s.ps)
	x.arm(f)
	got := x.do(s.o)
	l := x.l.Look()
	if cause == api.OK {
		same(t, what+": as without", []any{got[:2], l.Failed}, []any{"0 ", false})
		return
	}
	same(t, "P22.2: "+what, got, s.o.failed())
	same(t, "P22.5: "+what, fmt.Sprint(l.Failed, l.Cause, l.Held, l.HeldBytes, l.Closed), fmt.Sprint(true, cause, 0, 0, s.o.what == "Close"))
	same(t, "P22.5: First: "+what, l.First, map[bool]int64{false: 1, true: 2}[s.cut > 0 && int(f.At) >= s.cut])
	if !l.Closed {
		x.afterFailure(what)
	}
	x.closedBehindFailure(what)
}

// afterFailure holds what is answered behind a failure, of a log with the records 1 and 2 or some more.
func (x *twin) afterFailure(what string) {
	x.t.Helper()
	l := x.l.Look()
	lasts := map[bool]string{true: "0 2 r2", false: "22 0 "}[x.d.Up()]
	for range 2 {
		x.wants(what, app("x"), "40 0", async("x"), "40 0", app(long(5000)), "40 0", async(long(5000)), "40 0", syncs(), "40 ")
		x.wants(what, truncate(math.MinInt64), "40 ", truncate(l.First), "40 ", truncate(2), "40 ", truncate(l.Durable+1), "40 ")
		x.wants(what, read(2), lasts, nextOf(2), lasts, read(l.First-1), "43 0 ", nextOf(l.First-1), "43 0 ")
		for _, lsn := range []int64{l.Durable, l.Reserved - 1, l.Reserved, l.Reserved + 1, math.MaxInt64} {
			x.wants(what, read(lsn), "42 0 ", nextOf(lsn), "40 0 ", stand(1, lsn), "0 ", next(1), "40 0 ", at(1), fmt.Sprint("0 ", lsn))
		}
		x.wants(what, all(l.Durable), "0 ", stand(1, 1), "0 ")
		x.do(all(0))
	}
	same(x.t, what+": nothing has changed", x.l.Look(), l)
	x.wants(what, closes(), "40 ")
	same(x.t, what+": it stays failed", fmt.Sprint(x.l.Look().Failed, x.l.Look().Cause), fmt.Sprint(true, l.Cause))
}

func (x *twin) closedBehindFailure(what string) {
	x.t.Helper()
	x.wants(what+": closed", stand(0, 1), "0 ", stand(1, 1), "0 ")
	x.closedCalls()
	x.filesAlike()
}

// With an error an LSN is 0, though one was reserved.
func TestErrorsTellNoLSN(t *testing.T) {
	d := disk.New(1 << 20)
	l, _, _ := wal.Open(d, params())
	l.Append([]byte("a"))
	d.Arm(api.Fault{At: 2, Kind: api.FaultIO})
	lsn, err := l.Append([]byte("b"))
	same(t, "P22.2", []any{lsn, err, l.Look().Reserved}, []any{0, api.ErrFailed, 3})
	for _, o := range []int64{1, 2, 9} {
		rec, err := l.Read(o + 1)
		same(t, "P22.2: the zero record", []any{rec.LSN, rec.Data == nil, err}, []any{0, true, api.ErrNotYet})
	}
}

// What is lost may be found by a later opening; what was acknowledged is.
func TestOpenedAgainBehindAFailure(t *testing.T) {
	for _, k := range []struct {
		at    int64
		part  int
		found string
	}{
		{1, 0, "0 1 r1, 2 r2"},
		{1, 16, "0 1 r1, 2 r2"},
		{1, 17, "0 1 r1, 2 r2, 3 c"},
		{1, 1000, "0 1 r1, 2 r2, 3 c, 4 d, 5 e"},
		{2, 0, "0 1 r1, 2 r2, 3 c, 4 d, 5 e"},
	} {
		x := crowd(t, changed(func(p *api.EngineParams) { p.QueueCap = 3 }))
		x.arm(api.Fault{At: k.at, Kind: map[bool]int{true: api.FaultFull, false: api.FaultIO}[k.at == 1], Part: k.part})
		x.wants("it fails", syncs(), "40 ", closes(), "40 ")
		x.arm()
		y := over(t, x.d, params())
		next := y.l.Look().Reserved
		y.wants(fmt.Sprint("P22.1: opened again, ", k), all(0), k.found, app("on"), fmt.Sprint("0 ", next), read(next), fmt.Sprintf("0 %d on", next))
	}
}
