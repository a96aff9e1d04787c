package store_test

import (
	"fmt"
	"math"
	"slices"
	"strings"
	"testing"

	"flume/api"
	"flume/disk"
	"flume/store"
)

// scene is a call of a log that was called ahead of that, and the operations that the call makes.
type scene struct {
	what   string
	segMax int
	ahead  []call
	call   call
	ops    string
}

func scenes() []scene {
	abc := []call{appends(texts("a", "b", "c")...), syncs}
	return []scene{
		{"Append to an empty log", 64, nil, appends(texts("x")...), "Append"},
		{"Append with a roll between", 100, abc, appends(texts("x", "y")...), "Append " + rollOps + " Append"},
		{"Append of one", 128, abc, appends(texts("x")...), "Append"},
		{"Append behind what does not last", 200, append(abc, appends(texts("d")...)), appends(texts("x", "y")...), "Append"},
		{"Append with a roll ahead", 64, abc, appends(texts("x")...), rollOps + " Append"},
		{"Append with a roll ahead, behind what does not last", 64, append(abc, appends(texts("d")...)), appends(texts("x")...), rollOps + " Append"},
		{"Append with rolls", 66, abc, appends(texts("x", "y", "z", "u")...), inOrder("Append", rollOps, "Append", rollOps, "Append")},
		{"Sync", 128, append(abc, appends(texts("d")...)), syncs, "Sync"},
		{"Sync of nothing", 64, abc, syncs, ""},
		{"Close", 64, append(abc, appends(texts("d")...)), closes, "Sync"},
		{"Close of nothing", 64, abc, closes, ""},
		{"TruncateFront in the open segment", 200, abc, truncates(3), catalogOps},
		{"TruncateFront in the first segment", 66, append(abc, appends(texts("d", "e")...), syncs), truncates(2), catalogOps},
		{"TruncateFront with one to remove", 66, append(abc, appends(texts("d", "e")...), syncs), truncates(4), catalogOps + " Remove SyncDir"},
		{"TruncateFront with some to remove, behind what does not last", 64, append(abc, appends(texts("d", "e")...)), truncates(5), catalogOps + " Remove Remove Remove Remove SyncDir"},
	}
}

// causeOf is the error of an operation that a fault of that kind befalls: OK, if it is done all the same.
func causeOf(kind int, operation string) api.Errno {
	switch kind {
	case api.FaultIO:
		return api.ErrIO
	case api.FaultPower:
		return api.ErrDown
	case api.FaultPanic:
		return api.ErrPanic
	}
	if operation == "Create" || operation == "Append" {
		return api.ErrFull
	}
	return api.OK
}

func TestOperationsInOrder(t *testing.T) {
	for _, c := range scenes() {
		same(t, "the operations: "+c.what, calling(t, disk.New(1<<20), params(c.segMax, 1), c.ahead, c.call), c.ops)
	}
}

// Each operation of each call with a fault of each kind.
func TestFaults(t *testing.T) {
	for _, c := range scenes() {
		for i, operation := range strings.Fields(c.ops) {
			for kind := api.FaultIO; kind <= api.FaultPanic; kind++ {
				for _, part := range []int{0, 5, 17, 1000} {
					if operation == "Append" || part == 0 {
						checkFault(t, c, api.Fault{At: int64(i + 1), Kind: kind, Part: part}, causeOf(kind, operation))
					}
				}
			}
		}
	}
}

func checkFault(t *testing.T, c scene, f api.Fault, cause api.Errno) {
	t.Helper()
	what := fmt.Sprintf("%s, fault %+v", c.what, f)
	x, _ := openTwin(t, disk.New(1<<20), params(c.segMax, 1))
	x.do(t, c.ahead...)
	was, ops := x.s.Look(), x.d.Count().All
	x.arm(t, f)
	err := x.do(t, c.call)
	if cause == api.OK {
		same(t, what+": as without", err, api.OK)
		same(t, what+": not failed", x.s.Look().Failed, false)
		return
	}
	same(t, what, err, api.ErrFailed)
	same(t, what+": no operation behind it", x.d.Count().All, ops+f.At)
	l := x.s.Look()
	same(t, "P14.7: Cause: "+what, fmt.Sprint(l.Failed, l.Cause, l.Closed), fmt.Sprint(true, cause, c.call.kind == "Close"))
	same(t, what+": Next and Durable", fmt.Sprint(l.Next, l.Durable), fmt.Sprint(was.Next, was.Durable))
	first := was.First
	if c.call.kind == "TruncateFront" && f.At > 5 { // The catalog's SyncDir is the fifth.
		first = c.call.lsn
	}
	same(t, "P14.5: First: "+what, l.First, first)
	checkFailed(t, what, x)
}

// checkFailed looks at a store that has failed: it is so for good, and what lasts is read.
func checkFailed(t *testing.T, what string, x *twin) {
	t.Helper()
	refusal := api.ErrFailed
	if x.s.Look().Closed {
		refusal = api.ErrClosed
	}
	l := x.s.Look()
	for range 2 {
		for _, c := range []call{appends(texts("n")...), appends(), appends(big(4097)), syncs, truncates(math.MinInt64), truncates(l.First), truncates(l.First + 1), truncates(l.Durable), truncates(math.MaxInt64)} {
			refusing(t, "failed: "+what, x.d, x.s, c, refusal)
			x.do(t, c)
		}
		x.alike(t, "failed: "+what)
		if !x.d.Up() {
			x.d.Crash(api.Fate{})
			x.p.d.Crash(api.Fate{})
		}
	}
	if refusal == api.ErrFailed {
		wantRecords(t, "failed: "+what, x.s, l.First, texts("a", "b", "c", "d", "e")[l.First-1:l.Durable-1]...)
		same(t, "P14.6: Close: "+what, x.do(t, closes), api.ErrFailed)
	}
	same(t, "P14.6: Close again: "+what, x.do(t, closes), api.ErrClosed)
	l.Closed = true
	same(t, "P14.7: Look: "+what, x.s.Look(), l)
}

// Two faults: the store fails at the first, and never comes to the second.
func TestTheFirstFaultCounts(t *testing.T) {
	d, s := fresh(t, texts("a")...)
	arm(t, d, api.Fault{At: 2, Kind: api.FaultPanic}, api.Fault{At: 3, Kind: api.FaultIO})
	wantAppend(t, "with faults", s, 0, api.ErrFailed, texts("b")...)
	same(t, "P14.7: Cause", s.Look().Cause, api.ErrPanic)
	same(t, "P14.3: Sync", s.Sync(), api.ErrFailed)
	same(t, "P14.5: TruncateFront", s.TruncateFront(2), api.ErrFailed)
	same(t, "P14.6: Close", s.Close(), api.ErrFailed)
	same(t, "P14.7: Cause", s.Look().Cause, api.ErrPanic)
	same(t, "the second fault is still armed", d.SyncDir(), api.ErrIO)
}

// A disk that refuses, and counts no operation, makes the store fail too.
func TestRefusedByTheDisk(t *testing.T) {
	down := func(d *disk.Disk) {
		d.Arm(api.Fault{At: 1, Kind: api.FaultPower})
		d.SyncDir()
	}
	for _, c := range []struct {
		what  string
		spoil func(d *disk.Disk)
		calls []call
		cause api.Errno
	}{
		{"down, Append", down, []call{appends(texts("d")...)}, api.ErrDown},
		{"down, Sync", down, []call{syncs}, api.ErrDown},
		{"down, Close", down, []call{closes}, api.ErrDown},
		{"down, TruncateFront", down, []call{truncates(2)}, api.ErrDown},
		{"no segment, Append", func(d *disk.Disk) { d.Remove(segName(3)) }, []call{appends(texts("d")...)}, api.ErrNone},
		{"no segment, Sync", func(d *disk.Disk) { d.Remove(segName(3)) }, []call{syncs}, api.ErrNone},
		{"a segment is there", func(d *disk.Disk) { d.Create(segName(4)) }, []call{appends(texts("d")...)}, api.ErrExists},
		{"a catalog is there", func(d *disk.Disk) { d.Create("catalog-next") }, []call{truncates(2)}, api.ErrExists},
		{"no segment to remove", func(d *disk.Disk) { d.Remove(segName(1)) }, []call{truncates(2)}, api.ErrNone},
	} {
		d := disk.New(1 << 20)
		s, _ := opened(t, d, params(64, 1))
		wantAppend(t, c.what, s, 1, api.OK, texts("a", "b", "c")...)
		c.spoil(d)
		for _, x := range c.calls {
			lsn, err := x.on(s)
			same(t, c.what, fmt.Sprint(lsn, err), fmt.Sprint(0, api.ErrFailed))
		}
		l := s.Look()
		same(t, "P14.7: Cause: "+c.what, fmt.Sprint(l.Failed, l.Cause, l.Next, l.Durable), fmt.Sprint(true, c.cause, 4, 3))
	}
}

// openScene is a disk that is to be opened, and the operations of that.
type openScene struct {
	what  string
	d     *disk.Disk
	ops   string
	first int64
	datas []string
}

func openScenes(t *testing.T) []openScene {
	strays := func(d *disk.Disk, sync bool) *disk.Disk {
		put(t, d, segName(9), []byte("stray"))
		put(t, d, "segment-next", []byte("stray"))
		if sync {
			d.SyncDir()
		}
		return d
	}
	tail := func(d *disk.Disk) *disk.Disk {
		d.Append(segName(6), []byte("tail"))
		return d
	}
	behind := func(d *disk.Disk) *disk.Disk {
		tail(d).Sync(segName(6))
		return d
	}
	log := func() *disk.Disk { return laid(t, 9, 11, threeParts()) }
	return []openScene{
		{"an empty disk", disk.New(1 << 20), freshOps, 1, nil},
		{"strays", strays(disk.New(1<<20), true), inOrder("Remove Remove SyncDir", freshOps), 1, nil},
		{"strays that pend", strays(disk.New(1<<20), false), inOrder("SyncDir Remove Remove SyncDir", freshOps), 1, nil},
		{"a log with strays", strays(log(), true), "Remove Remove SyncDir", 11, threeDatas[1:]},
		{"a log with a tail", tail(log()), catalogOps, 11, threeDatas[1:]},
		{"a log with bytes behind", behind(log()), "Cut", 11, threeDatas[1:]},
		{"a log with strays that pend and a tail", strays(tail(log()), false), "SyncDir Remove Remove SyncDir " + catalogOps, 11, threeDatas[1:]},
		{"a log with strays that pend and bytes behind", strays(behind(log()), false), "SyncDir Remove Remove SyncDir Cut", 11, threeDatas[1:]},
	}
}

// Each operation of Open with a fault of each kind: nothing comes of it, no operation is done behind it, and opening again goes on from there.
func TestOpenWithFaults(t *testing.T) {
	for _, c := range openScenes(t) {
		same(t, "P14.1: the operations: "+c.what, opening(t, c.d, params(64, 1)), c.ops)
		for i, operation := range strings.Fields(c.ops) {
			for kind := api.FaultIO; kind <= api.FaultPanic; kind++ {
				for _, part := range []int{0, 5, 1000} {
					checkOpenFault(t, c, api.Fault{At: int64(i + 1), Kind: kind, Part: part}, causeOf(kind, operation))
				}
			}
		}
	}
}

func checkOpenFault(t *testing.T, c openScene, f api.Fault, want api.Errno) {
	t.Helper()
	what := fmt.Sprintf("%s, fault %+v", c.what, f)
	d := c.d.Copy()
	was := d.Count().All
	arm(t, d, f)
	x, err := openTwin(t, d, params(64, 1))
	same(t, "P14.1: "+what, err, want)
	if want != api.OK {
		same(t, "P14.1: no operation behind it: "+what, d.Count().All, was+f.At)
		if want == api.ErrDown {
			wantOpen(t, "still down: "+what, d, params(64, 1), api.ErrDown)
			d.Crash(api.Fate{})
		}
		x, err = openTwin(t, d, params(64, 1))
		same(t, "P14.1: again: "+what, err, api.OK)
	}
	wantRecords(t, what, x.s, c.first, texts(c.datas...)...)
	allLasts(t, what, d)
	same(t, "P14.2: goes on: "+what, x.do(t, appends(texts("on", "and on")...), syncs), api.OK)
	wantRecords(t, what, x.s, c.first, texts(slices.Concat(c.datas, []string{"on", "and on"})...)...)
}

// A fault that befalls a later operation, or none, changes nothing.
func TestFaultsBeyond(t *testing.T) {
	for _, c := range openScenes(t) {
		d := c.d.Copy()
		arm(t, d, api.Fault{At: int64(len(strings.Fields(c.ops)) + 1), Kind: api.FaultPanic})
		s, _, err := store.Open(d, params(64, 1))
		same(t, "P14.1: "+c.what, err, api.OK)
		wantAppend(t, c.what, s, 0, api.ErrFailed, []byte("x"))
	}
}
