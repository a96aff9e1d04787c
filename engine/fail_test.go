package engine_test

import (
	"fmt"
	"strings"
	"testing"

	"flume/api"
)

// scene is a step in which the store does operations; all calls but that of who wait for something.
type scene struct {
	what string
	ps   api.EngineParams
	who  func(x *twin) int // sets the scene, and gives whose step it is
	ops  string
	cut  int // the first operation of a Truncate at whose fault the front is cut all the same; 0: it is another step
}

const (
	catalogOps = "Create Append Sync Rename SyncDir"
	rollOps    = "Sync Create Append Sync " + catalogOps
)

// crowd is a twin with two records that last (the calls 1 and 2), 3 to 5 reserved, 6 and 7 in line, and calls that wait.
func crowd(t *testing.T, ps api.EngineParams) *twin {
	t.Helper()
	x := lasting(t, ps, 2)
	x.call(app("c"), app("d"), async("e"), app("f"), async("g"), syncs(), next(3), next(9))
	x.want("the crowd", map[int]string{3: "in 3", 4: "in 3", 5: "0 5 ", 6: "in 2", 7: "in 2", 8: "in 3", 9: "in 4", 10: "in 4"})
	return x
}

func scenes() []scene {
	ps := func(segMax int) api.EngineParams {
		return changed(func(p *api.EngineParams) { p.Store.SegMax, p.QueueCap = segMax, 3 })
	}
	ahead := func(who, steps int) func(x *twin) int {
		return func(x *twin) int {
			for range steps {
				x.step(who)
			}
			return who
		}
	}
	truncates := func(x *twin) int { return x.begin(truncate(2)) }
	return []scene{
		{"Write", ps(4096), ahead(3, 2), "Append", 0},
		{"Write, led from Line", ps(4096), ahead(6, 2), "Append", 0},
		{"Write, led from Tail", ps(4096), ahead(9, 2), "Append", 0},
		{"Write with rolls", ps(64), ahead(8, 2), strings.Join([]string{rollOps, "Append", rollOps, "Append", rollOps, "Append"}, " "), 0},
		{"Flush", ps(4096), ahead(8, 3), "Sync", 0},
		{"Flush, led from Line", ps(4096), ahead(7, 3), "Sync", 0},
		{"Truncate with none to remove", ps(4096), truncates, catalogOps, 6},
		{"Truncate with one to remove", ps(64), truncates, catalogOps + " Remove SyncDir", 6},
	}
}

// causeOf is the error of an operation that a fault of that kind befalls; OK, if it is done all the same.
func causeOf(kind int, operation string) api.Errno {
	switch kind {
	case api.FaultIO:
		return api.ErrIO
	case api.FaultPower:
		return api.ErrDown
	case api.FaultPanic:
		return api.ErrPanic
	}
	if operation == "Create" || operation == "Append" {
		return api.ErrFull
	}
	return api.OK
}

// Each operation of each step that does some, with a fault of each kind.
func TestFaults(t *testing.T) {
	for _, s := range scenes() {
		ops := strings.Fields(s.ops)
		x := crowd(t, s.ps)
		who := s.who(x)
		was := x.d.Count().All
		x.step(who)
		same(t, "the operations: "+s.what, x.d.Count().All-was, len(ops))
		for i, operation := range ops {
			for kind := api.FaultIO; kind <= api.FaultPanic; kind++ {
				for _, part := range []int{0, 5, 1000} {
					if operation == "Append" || part == 0 {
						s.fails(t, api.Fault{At: int64(i + 1), Kind: kind, Part: part}, causeOf(kind, operation))
					}
				}
			}
		}
	}
}

func (s scene) fails(t *testing.T, f api.Fault, cause api.Errno) {
	t.Helper()
	what := fmt.Sprintf("%s, fault %+v", s.what, f)
	x := crowd(t, s.ps)
	who := s.who(x)
	came := x.told(who)
	was := x.e.Look()
	x.arm(f)
	x.step(who)
	now := x.e.Look()
	if cause == api.OK {
		same(t, what+": as without", now.Failed, false)
		return
	}
	want := api.EngineLook{First: was.First, Durable: was.Durable, Reserved: was.Reserved, Batches: was.Batches, Failed: true, Cause: cause}
	if s.cut > 0 {
		result := "40 0 "
		if f.At >= int64(s.cut) {
			want.First, result = 2, "40 2 "
		}
		same(t, "P21.3: "+what, x.told(who), result)
	} else {
		back := map[int]string{3: "in 3", 6: "in 2", 7: "in 2", 8: "in 3", 9: "in 4"}[who]
		same(t, "P21.3: back where it came from: "+what, came+" "+x.told(who), came+" "+back)
	}
	same(t, "P21.4: "+what, now, want)
	x.afterFailure(what)
}

// afterFailure looks at a crowd whose engine has failed: who waited is told that, what was lost has its LSN, and so it stays.
func (x *twin) afterFailure(what string) {
	x.t.Helper()
	x.wantReady(what, 3, 4, 6, 7, 8, 9, 10)
	same(x.t, "P21.4: Tick: "+what, x.tick(), false)
	x.step(7, 3, 10, 8, 6, 9, 4)
	x.want("P21.3: "+what, map[int]string{3: "40 3 ", 4: "40 4 ", 5: "0 5 ", 6: "40 6 ", 7: "40 7 ", 8: "40 0 ", 9: "40 0 ", 10: "40 0 "})
	x.wantReady(what)
	first := x.e.Look().First
	want := map[bool]string{true: "0 2 r2", false: "22 0 "}[x.d.Up()]
	for range 2 {
		x.outcomes("P21.3: "+what, outcome{app("x"), "40 0 "}, outcome{async("x"), "40 0 "}, outcome{app(long(5000)), "40 0 "}, outcome{syncs(), "40 0 "}, outcome{truncate(first), "40 0 "}, outcome{truncate(3), "40 0 "}, outcome{truncate(99), "40 0 "})
		x.outcomes("P21.3: "+what, outcome{read(2), want}, outcome{next(2), want}, outcome{read(3), "42 0 "}, outcome{read(first - 1), "43 0 "}, outcome{next(first - 1), "43 0 "}, outcome{next(3), "in 4"})
		id := len(x.p.calls)
		x.step(id)
		same(x.t, "P21.3: a Next: "+what, x.told(id), "40 0 ")
	}
	x.outcomes("P21.3: "+what, outcome{closes(), "40 0 "}, outcome{closes(), "41 0 "}, outcome{app("x"), "41 0 "}, outcome{read(2), "41 0 "})
}

// A catalog without room: the store answers ErrMany, and has not failed; the engine has, with that as its cause.
func TestFailsOfTooManySegments(t *testing.T) {
	for _, more := range []int{1, 3} {
		x := opened(t, changed(func(p *api.EngineParams) { p.Store.SegMax = 64 }))
		for i := range 65 - more {
			id := x.begin(app("x"))
			x.step(id, id, id, id, id, id)
			same(t, "Append", x.told(id), fmt.Sprintf("0 %d ", i+1))
		}
		lsn := x.e.Look().Reserved
		for range more - 1 {
			x.call(async("y"))
		}
		x.call(app("z"), next(lsn))
		id := len(x.p.calls) - 1
		ops := x.d.Count()
		x.step(id, id, id)
		same(t, "P21.3: it fails", x.e.Look(), api.EngineLook{First: 1, Durable: lsn, Reserved: 66, Batches: lsn - 1, Failed: true, Cause: api.ErrMany})
		x.step(id, id+1)
		x.want("P21.3", map[int]string{id: "40 65 ", id + 1: "40 0 "})
		x.outcomes("P21.3", outcome{app("x"), "40 0 "}, outcome{truncate(9), "40 0 "}, outcome{syncs(), "40 0 "}, outcome{read(64), map[int]string{1: "0 64 x", 3: "42 0 "}[more]}, outcome{closes(), "40 0 "})
		same(t, "P21.4: Look", fmt.Sprint(x.e.Look().Cause, x.e.Look().Closed), fmt.Sprint(api.ErrMany, true))
		same(t, "no operation behind it", x.d.Count(), ops)
	}
}

// A cause stays what it was first.
func TestCauseStays(t *testing.T) {
	x := crowd(t, changed(func(p *api.EngineParams) { p.QueueCap = 3 }))
	x.arm(api.Fault{At: 1, Kind: api.FaultFull}, api.Fault{At: 2, Kind: api.FaultIO}, api.Fault{At: 3, Kind: api.FaultPower})
	x.step(3, 3, 3)
	same(t, "P21.4: Cause", x.e.Look().Cause, api.ErrFull)
	x.afterFailure("FaultFull, and more")
	same(t, "P21.4: Cause", x.e.Look().Cause, api.ErrFull)
}

// A batch that was written, and not synced, is lost by what is answered; a later opening may find it.
func TestLostRecordsMayBeFound(t *testing.T) {
	x := crowd(t, changed(func(p *api.EngineParams) { p.QueueCap = 3 }))
	x.arm(api.Fault{At: 2, Kind: api.FaultIO})
	x.step(8, 8, 8, 8)
	same(t, "Look", fmt.Sprint(x.e.Look().Failed, x.e.Look().Durable), "true 3")
	y := over(t, x.d.Copy(), params())
	same(t, "P21.1: found", y.e.Look(), api.EngineLook{First: 1, Durable: 6, Reserved: 6})
	same(t, "they go on", []string{y.alone(read(5)), y.alone(app("on"))}, "[0 5 e 0 6 ]")
}
