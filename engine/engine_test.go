package engine_test

import (
	"fmt"
	"math"
	"slices"
	"testing"

	"flume/api"
	"flume/disk"
	"flume/engine"
	"flume/name"
	"flume/store"
)

func TestExamples(t *testing.T) {
	x := opened(t, params())
	same(t, "P21.2: Begin", []int{x.begin(app("a")), x.begin(app("b"))}, "[1 2]")
	x.wantReady("begun", 1, 2)
	x.step(1, 2)
	same(t, "P21.4: State", x.e.State(1), 3)
	x.wantReady("there is no leader", 1, 2)
	x.step(2)
	same(t, "P21.4: State", x.e.State(2), 6)
	x.wantReady("2 leads", 2)
	same(t, "P21.3: Step", x.e.Step(1), api.ErrBusy)
	var states []int
	for range 3 {
		x.step(2)
		states = append(states, x.e.State(2))
	}
	same(t, "P21.4: State", states, "[7 8 3]")
	l := x.e.Look()
	same(t, "P21.4: Look", fmt.Sprint(l.Durable, l.Batches, l.Leader), "3 1 0")
	x.step(1, 2)
	x.want("P21.3: Result", map[int]string{1: "0 1 ", 2: "0 2 "})
	same(t, "P21.2: Begin", x.begin(next(3)), 3)
	x.step(3)
	same(t, "P21.4: State", x.e.State(3), 4)
	x.wantReady("3 is not reserved")
}

// spoilt are params of which one may not be.
func spoilt() []api.EngineParams {
	var l []api.EngineParams
	add := func(how func(p *api.EngineParams)) { l = append(l, changed(how)) }
	for _, n := range []int{0, -1, 1025, 1 << 32, math.MinInt, math.MaxInt} {
		add(func(p *api.EngineParams) { p.QueueCap = n })
	}
	for _, n := range []int{0, -1, 1<<24 + 1, 1 << 32, math.MinInt, math.MaxInt} {
		add(func(p *api.EngineParams) { p.QueueBytes = n })
	}
	for _, n := range []int{0, -1, 257, math.MinInt, math.MaxInt} {
		add(func(p *api.EngineParams) { p.Pace.Most = n })
	}
	for _, n := range []int{0, -1, 1<<20 + 1, math.MinInt, math.MaxInt} {
		add(func(p *api.EngineParams) { p.Pace.Bytes = n })
	}
	for _, f := range []float64{-5e-324, -1, math.Nextafter(1<<20, 1<<21), math.Inf(1), math.Inf(-1), math.NaN()} {
		add(func(p *api.EngineParams) { p.Pace.Linger = f })
	}
	for _, f := range []float64{0, math.Copysign(0, -1), -1, math.Nextafter(1, 2), math.Inf(1), math.NaN()} {
		add(func(p *api.EngineParams) { p.Pace.Alpha = f })
	}
	for _, n := range []int{63, 0, -1, 1<<20 + 1, math.MaxInt} {
		add(func(p *api.EngineParams) { p.Store.SegMax = n })
	}
	for _, n := range []int64{0, -1, math.MinInt64} {
		add(func(p *api.EngineParams) { p.Store.Base = n })
	}
	return append(l, api.EngineParams{})
}

// refusedNew holds that there is no engine, and that the disk is as it was.
func refusedNew(t *testing.T, what string, d *disk.Disk, ps api.EngineParams, want api.Errno) {
	t.Helper()
	ops, files := d.Count(), fmt.Sprint(d.Files())
	e, found, err := engine.New(d, ps)
	if e != nil || found != (api.Found{}) || err != want {
		t.Fatalf("P21.1: %s: %+v: %v, %+v, %v, want %v", what, ps, e != nil, found, err, want)
	}
	same(t, "P21.1: no operation: "+what, d.Count(), ops)
	same(t, "P21.1: the files: "+what, fmt.Sprint(d.Files()), files)
}

func TestNewRefuses(t *testing.T) {
	down := oneThere(t)
	down.Arm(api.Fault{At: 1, Kind: api.FaultPower})
	down.SyncDir()
	for _, ps := range spoilt() {
		refusedNew(t, "an empty disk", disk.New(1<<20), ps, api.ErrArg)
		refusedNew(t, "a log", oneThere(t), ps, api.ErrArg)
		refusedNew(t, "no disk", nil, ps, api.ErrArg)
		refusedNew(t, "a disk that is down", down, ps, api.ErrArg)
		refusedNew(t, "a disk that New did not make", &disk.Disk{}, ps, api.ErrArg)
	}
	refusedNew(t, "no disk", nil, params(), api.ErrArg)
	refusedNew(t, "a disk that is down", down, params(), api.ErrDown)
	refusedNew(t, "a disk that New did not make", &disk.Disk{}, params(), api.ErrDown)
}

func TestNewTakesTheEdges(t *testing.T) {
	for i, how := range []func(p *api.EngineParams){
		func(p *api.EngineParams) { p.QueueCap = 1 },
		func(p *api.EngineParams) { p.QueueCap = 1024 },
		func(p *api.EngineParams) { p.QueueBytes = 1 },
		func(p *api.EngineParams) { p.QueueBytes = 1 << 24 },
		func(p *api.EngineParams) { p.Pace.Most = 1 },
		func(p *api.EngineParams) { p.Pace.Most = 256 },
		func(p *api.EngineParams) { p.Pace.Bytes = 1 },
		func(p *api.EngineParams) { p.Pace.Bytes = 1 << 20 },
		func(p *api.EngineParams) { p.Pace.Linger = math.Copysign(0, -1) },
		func(p *api.EngineParams) { p.Pace.Linger = 1 << 20 },
		func(p *api.EngineParams) { p.Pace.Alpha = 5e-324 },
		func(p *api.EngineParams) { p.Pace.Alpha = 1 },
		func(p *api.EngineParams) { p.Store.SegMax = 64 },
		func(p *api.EngineParams) { p.Store.SegMax = 1 << 20 },
		func(p *api.EngineParams) { p.Store.Base = math.MaxInt64 },
	} {
		x := opened(t, changed(how))
		l := x.e.Look()
		base := x.p.p.Store.Base
		same(t, fmt.Sprint("P21.1: a new one: ", i), l, api.EngineLook{First: base, Durable: base, Reserved: base})
	}
}

// What was there is found, and goes on.
func TestNewOverALog(t *testing.T) {
	d := disk.New(1 << 20)
	ps := changed(func(p *api.EngineParams) { p.Store = api.Params{SegMax: 64, Base: 7} })
	x := over(t, d, ps)
	_, found, err := engine.New(disk.New(1<<20), ps)
	same(t, "P21.1: a fresh one", fmt.Sprintf("%+v %v", found, err), fmt.Sprintf("%+v 0", api.Found{Fresh: true}))
	same(t, "the records", []string{x.alone(app("a")), x.alone(app("b")), x.alone(app("c")), x.alone(truncate(8))}, "[0 7  0 8  0 9  0 0 ]")
	d.Create("stray")
	d.Rename("stray", "catalog-next")
	file, _ := name.Segment(3)
	d.Append(file, []byte("junk"))
	for _, base := range []int64{1, 7, 100} {
		ps.Store.Base = base
		e, found, err := engine.New(d.Copy(), ps)
		same(t, "P21.1: Found", fmt.Sprintf("%+v %v", found, err), fmt.Sprintf("%+v 0", api.Found{Removed: 1, Lost: 4}))
		same(t, "P21.1: Look", e.Look(), api.EngineLook{First: 8, Durable: 10, Reserved: 10})
		y := over(t, d.Copy(), ps)
		same(t, "it goes on", []string{y.alone(read(7)), y.alone(read(8)), y.alone(next(9)), y.alone(read(10)), y.alone(app("d")), y.alone(read(10))}, "[43 0  0 8 b 0 9 c 42 0  0 10  0 10 d]")
	}
}

// An opening that fails answers what the store's does, with each kind of fault at each of its operations.
func TestNewFails(t *testing.T) {
	some := oneThere(t)
	some.Create("catalog-next")
	some.Append("seg-0000000000000001.log", []byte("x"))
	for i, d := range []*disk.Disk{disk.New(1 << 20), some} {
		failed := map[api.Errno]int{}
		for at := int64(1); at <= 10; at++ {
			for kind := api.FaultIO; kind <= api.FaultPanic; kind++ {
				c := d.Copy()
				c.Arm(api.Fault{At: at, Kind: kind, Part: 3})
				twice := c.Copy()
				e, found, err := engine.New(c, params())
				_, wantFound, want := store.Open(twice, params().Store)
				if (e == nil) != (want != api.OK) || found != wantFound || err != want {
					t.Fatalf("P21.1: disk %d, fault %d at %d: %+v, %v, want %+v, %v", i, kind, at, found, err, wantFound, want)
				}
				same(t, "the operations", c.Count(), twice.Count())
				failed[err]++
			}
		}
		for _, err := range []api.Errno{api.OK, api.ErrIO, api.ErrFull, api.ErrDown, api.ErrPanic} {
			if failed[err] == 0 {
				t.Fatalf("P21.1: no opening of disk %d answers %d: %v", i, err, failed)
			}
		}
	}
	e, found, err := engine.New(disk.New(10), params())
	same(t, "P21.1: no room", fmt.Sprint(e == nil, found, err), fmt.Sprint(true, api.Found{}, api.ErrFull))
	d := disk.New(100)
	d.Create("catalog")
	e, found, err = engine.New(d, params())
	same(t, "P21.1: no catalog", fmt.Sprint(e == nil, found, err), fmt.Sprint(true, api.Found{}, api.ErrCorrupt))
}

func TestBeginRefuses(t *testing.T) {
	x := opened(t, params())
	refused := func(c api.Call, want api.Errno) {
		t.Helper()
		id, err := x.e.Begin(c)
		same(t, fmt.Sprintf("P21.2: Begin %+v", c), fmt.Sprint(id, err), fmt.Sprint(0, want))
		x.alike(did{what: "refused", call: c})
	}
	for _, kind := range []int{0, -1, 8, 9, 1 << 32, 1<<32 + 1, math.MinInt, math.MaxInt} {
		for _, c := range calls(app("a"), read(1), api.Call{}, api.Call{LSN: -1, Data: []byte("x")}) {
			c.Kind = kind
			refused(c, api.ErrKind)
		}
	}
	for kind := 1; kind <= 7; kind++ {
		if usesData := kind <= 2; !usesData {
			refused(api.Call{Kind: kind, Data: []byte{0}}, api.ErrArg)
			refused(api.Call{Kind: kind, Data: make([]byte, 5000)}, api.ErrArg)
			refused(api.Call{Kind: kind, LSN: 1, Data: []byte("x")}, api.ErrArg)
		}
		if usesLSN := kind >= 4 && kind <= 6; !usesLSN {
			for _, lsn := range []int64{1, -1, math.MinInt64, math.MaxInt64} {
				refused(api.Call{Kind: kind, LSN: lsn}, api.ErrArg)
				refused(api.Call{Kind: kind, LSN: lsn, Data: []byte("x")}, api.ErrArg)
			}
		}
	}
	same(t, "P21.2: nothing was begun", fmt.Sprint(x.e.State(1), len(x.e.Ready())), "0 0")
}

func TestBeginTakes(t *testing.T) {
	x := opened(t, params())
	n := 0
	takes := func(c api.Call) {
		t.Helper()
		n++
		same(t, "P21.2: Begin", x.begin(c), n)
		same(t, "P21.4: State", x.e.State(n), api.StateStart)
	}
	for kind := 1; kind <= 7; kind++ {
		takes(api.Call{Kind: kind})
		takes(api.Call{Kind: kind, Data: []byte{}})
		takes(api.Call{Kind: kind, Data: []byte("spare room")[:0]})
		if kind <= 2 {
			takes(api.Call{Kind: kind, Data: []byte{0}})
			takes(api.Call{Kind: kind, Data: make([]byte, 10000)})
		}
		if kind >= 4 && kind <= 6 {
			for _, lsn := range []int64{1, -1, math.MinInt64, math.MaxInt64} {
				takes(api.Call{Kind: kind, LSN: lsn})
			}
		}
	}
	same(t, "P21.2: no step was made", x.e.Look(), api.EngineLook{First: 1, Durable: 1, Reserved: 1})
}

// 4,096 calls may be that are not done, in whatever state.
func TestBeginOfTooMany(t *testing.T) {
	e, _, _ := engine.New(disk.New(1<<20), changed(func(p *api.EngineParams) {
		p.QueueCap, p.QueueBytes, p.Pace.Most = 100, 10000, 256
	}))
	for i := range 4095 {
		if id, err := e.Begin([]api.Call{syncs(), app("x"), next(9)}[i%3]); id != i+1 || err != api.OK {
			t.Fatalf("P21.2: %d: %d, %v", i+1, id, err)
		}
	}
	for id := 2; id <= 60; id++ {
		if id%3 != 1 {
			e.Step(id)
		}
	}
	id, err := e.Begin(syncs())
	same(t, "P21.2: behind 4,095", fmt.Sprint(id, err), "4096 0")
	full := func(want string) {
		t.Helper()
		for _, c := range calls(app("a"), syncs(), closes()) {
			id, err := e.Begin(c)
			same(t, "P21.2: behind 4,096", fmt.Sprint(id, err), want)
		}
		id, err = e.Begin(api.Call{Kind: 8})
		same(t, "P21.2: ErrKind stands ahead of ErrMany", fmt.Sprint(id, err), fmt.Sprint(0, api.ErrKind))
		id, err = e.Begin(api.Call{Kind: api.CallSync, LSN: 1})
		same(t, "P21.2: ErrArg stands ahead of ErrMany", fmt.Sprint(id, err), fmt.Sprint(0, api.ErrArg))
	}
	full(fmt.Sprint(0, api.ErrMany))
	same(t, "P21.3: none was begun", fmt.Sprint(e.State(4097), e.Step(4097)), fmt.Sprint(0, api.ErrNone))
	for _, id := range []int{4093, 1, 7} {
		same(t, "a Sync waits", fmt.Sprint(e.Step(id), e.State(id)), "0 3")
	}
	full(fmt.Sprint(0, api.ErrMany))
	for range 4 { // it leads, and has all last
		e.Step(4093)
	}
	full(fmt.Sprint(0, api.ErrMany))
	for i, id := range []int{7, 4093, 2} {
		same(t, "it is done", fmt.Sprint(e.Step(id), e.State(id)), "0 9")
		id, err = e.Begin(app("room"))
		same(t, "P21.2: there is room again", fmt.Sprint(id, err), fmt.Sprint(4097+i, 0))
		full(fmt.Sprint(0, api.ErrMany))
	}
	same(t, "P21.3: they rise", slices.IsSorted(e.Ready()), true)
}

// A step that can't be made changes nothing.
func TestStepRefuses(t *testing.T) {
	x := opened(t, params())
	refused := func(id int, want api.Errno) {
		t.Helper()
		same(t, fmt.Sprint("P21.3: Step of ", id), x.e.Step(id), want)
		x.alike(did{what: "refused: Step", id: id})
	}
	beyond := func(n int) {
		t.Helper()
		for _, id := range []int{0, -1, math.MinInt, n + 1, n + 2, 1 << 32, 1<<32 + 1, math.MaxInt} {
			refused(id, api.ErrNone)
			same(t, "P21.4: State", x.e.State(id), 0)
			r, done := x.e.Result(id)
			same(t, "P21.3: Result", fmt.Sprint(r, done), fmt.Sprint(api.Result{}, false))
		}
	}
	beyond(0)
	x.call(app("a"), app("b"), next(5))
	beyond(3)
	refused(3, api.ErrBusy)
	x.step(1)
	refused(2, api.ErrBusy)
	refused(3, api.ErrBusy)
	x.step(1, 1, 1, 1)
	refused(1, api.ErrOrder)
	refused(1, api.ErrOrder)
	refused(3, api.ErrBusy)
	x.step(2)
	refused(2, api.ErrOrder)
	beyond(3)
}

// A result is there once a call is done, and stays.
func TestResults(t *testing.T) {
	x := opened(t, params())
	x.call(app("a"), next(1))
	for _, id := range []int{1, 1, 1, 1, 1, 2} {
		for id := range 4 {
			r, done := x.e.Result(id)
			if done != (x.e.State(id) == api.StateDone) || !done && (r.Err != 0 || r.LSN != 0 || r.Data != nil) {
				t.Fatalf("P21.3: Result of %d: %+v, %v", id, r, done)
			}
		}
		x.step(id)
	}
	for range 3 {
		x.want("P21.3: Result", map[int]string{1: "0 1 ", 2: "0 1 a"})
	}
	same(t, "it fails later", x.alone(truncate(9)), fmt.Sprintf("%d 0 ", api.ErrBounds))
	x.want("P21.3: Result", map[int]string{1: "0 1 ", 2: "0 1 a"})
}

// Each state has its number.
func TestStates(t *testing.T) {
	x := opened(t, changed(func(p *api.EngineParams) { p.QueueCap = 1 }))
	for range 5 {
		x.begin(app("a"))
	}
	x.step(1, 1, 2)
	x.call(next(2), truncate(1))
	x.begin(syncs())
	states := func() string {
		s := ""
		for id := range 10 {
			s += fmt.Sprint(x.e.State(id))
		}
		return s
	}
	same(t, "P21.4: none, Gather, Line, Start, Start, Start, Tail, Gate, Start, none", states(), "0621114510")
	x.step(1)
	same(t, "P21.4: Write", states(), "0721114510")
	x.step(1, 2)
	same(t, "P21.4: Flush, Wait", states(), "0831114510")
	x.step(1, 1, 7)
	same(t, "P21.4: done", states(), "0931114910")
}

func TestNoEngine(t *testing.T) {
	for i, e := range []*engine.Engine{nil, {}} {
		what := fmt.Sprintf("P21.5: engine %d", i)
		for range 2 {
			for _, c := range append(palette(), api.Call{}, api.Call{Kind: 8}, api.Call{Kind: 3, LSN: 1}) {
				id, err := e.Begin(c)
				same(t, what+": Begin", fmt.Sprint(id, err), fmt.Sprint(0, api.ErrArg))
			}
			for _, id := range []int{0, 1, -1, math.MaxInt, math.MinInt} {
				r, done := e.Result(id)
				same(t, what, fmt.Sprint(e.Step(id), r, done, e.State(id)), fmt.Sprint(api.ErrNone, api.Result{}, false, 0))
			}
			same(t, what, fmt.Sprint(len(e.Ready()), e.Tick(), e.Look() == api.EngineLook{}), "0 false true")
		}
	}
}

// Two engines know nothing of each other.
func TestTwoEngines(t *testing.T) {
	x, y := opened(t, params()), opened(t, changed(func(p *api.EngineParams) { p.Store.Base = 50 }))
	x.call(app("a"), app("b"))
	y.call(app("c"))
	x.step(1)
	y.step(1, 1, 1)
	x.arm(api.Fault{At: 1, Kind: api.FaultIO})
	x.step(1, 1)
	y.step(1, 1)
	x.step(1, 2)
	x.want("P0.5", map[int]string{1: "40 1 ", 2: "40 2 "})
	y.want("P0.5", map[int]string{1: "0 50 "})
}
