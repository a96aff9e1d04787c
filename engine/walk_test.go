package engine_test

import (
	"fmt"
	"math/rand"
	"testing"

	"flume/api"
	"flume/disk"
)

func drawnParams(r *rand.Rand) api.EngineParams {
	p := api.EngineParams{
		Store:    api.Params{SegMax: 64 + r.Intn(150), Base: 1 + r.Int63n(20)},
		QueueCap: 1 + r.Intn(6), QueueBytes: 16 + r.Intn(150),
		Pace: api.PaceParams{Most: 1 + r.Intn(5), Bytes: 1 + r.Intn(150), Linger: []float64{0, 0.1, 1.0 / 3, 5}[r.Intn(4)], Alpha: []float64{1, 0.5, 0.1}[r.Intn(3)]},
	}
	if r.Intn(4) == 0 {
		p.Store.SegMax = 1 << 16
	}
	return p
}

// drawnCall is a call of any Kind, of an engine that stands so; a Close is rare.
func drawnCall(r *rand.Rand, l api.EngineLook) api.Call {
	data := make([]byte, r.Intn(30))
	if r.Intn(12) == 0 {
		data = make([]byte, r.Intn(200))
	}
	r.Read(data)
	near := func() int64 { return l.First - 2 + r.Int63n(l.Reserved-l.First+6) }
	switch n := r.Intn(40); {
	case n < 12:
		return app(string(data))
	case n < 20:
		return async(string(data))
	case n < 25:
		return syncs()
	case n < 29:
		return read(near())
	case n < 35:
		return next(near())
	case n < 39:
		return truncate(near())
	}
	return []api.Call{closes(), syncs(), syncs()}[r.Intn(3)]
}

func drawnFault(r *rand.Rand) api.Fault {
	return api.Fault{At: int64(1 + r.Intn(30)), Kind: 1 + r.Intn(4), Part: r.Intn(60)}
}

// drawnFate is one of what a loss of power may leave of a disk.
func drawnFate(r *rand.Rand, d *disk.Disk) api.Fate {
	f := api.Fate{Dir: r.Intn(d.Pending() + 2)}
	for _, tail := range d.Tails(f.Dir) {
		k := api.Keep{N: r.Intn(tail.N + 1)}
		if r.Intn(2) == 0 {
			k.N = r.Intn(2) * tail.N
		}
		if r.Intn(4) == 0 {
			k.Junk = make([]byte, r.Intn(40))
			for i := range k.Junk {
				k.Junk[i] = 0xff
			}
		}
		f.Keeps = append(f.Keeps, k)
	}
	return f
}

// walk begins so many calls, and has turns as drawn; if it is to end, until nobody can go on.
func (x *twin) walk(r *rand.Rand, many int, ends bool) {
	begun := 0
	for begun < many {
		l := x.p.choices()
		switch {
		case len(l) == 0 || r.Intn(4) == 0:
			x.begin(drawnCall(r, x.e.Look()))
			begun++
		default:
			x.turn(l[r.Intn(len(l))])
		}
		if r.Intn(60) == 0 {
			x.refusedStep(r.Intn(len(x.p.calls)+3) - 1)
		}
	}
	if !ends {
		return
	}
	for l := x.p.choices(); len(l) > 0; l = x.p.choices() {
		x.turn(l[r.Intn(len(l))])
	}
	x.ended(len(x.p.calls))
}

// refusedStep tries a step that may be none.
func (x *twin) refusedStep(id int) {
	want := api.ErrNone
	if id >= 1 && id <= len(x.p.calls) {
		switch {
		case x.p.isReady(id):
			return
		case x.p.calls[id-1].state == api.StateDone:
			want = api.ErrOrder
		default:
			want = api.ErrBusy
		}
	}
	if err := x.e.Step(id); err != want {
		x.wrong(fmt.Sprint("P21.3: Step of ", id), err, want)
	}
	x.alike(did{what: "refused: Step", id: id})
}

// Logs that are called, fail, lose the power and are opened again as drawn, all along like a plain one.
func TestWalks(t *testing.T) {
	t.Parallel()
	r := rand.New(rand.NewSource(21))
	for round := range 500 {
		d := disk.New(1 << 20)
		if r.Intn(8) == 0 {
			d = disk.New(200 + r.Intn(1500))
		}
		ps := drawnParams(r)
		g := given{}
		for life := range 4 {
			if r.Intn(3) == 0 {
				d.Arm(drawnFault(r))
			}
			x := over(t, d, ps)
			if x != nil {
				x.walk(r, r.Intn(40), r.Intn(2) == 0)
				if r.Intn(3) == 0 {
					x.arm(drawnFault(r))
				}
				x.walk(r, r.Intn(30), r.Intn(2) == 0)
				x.filesAlike()
				g.keeps(x)
				d.Crash(drawnFate(r, d))
				x.opensWell(fmt.Sprintf("what was acknowledged is there: round %d, life %d", round, life), d.Copy(), g)
			} else {
				d.Crash(drawnFate(r, d))
			}
		}
	}
}

// Without a fault all that is reserved lasts when nobody can go on and someone waits for it, in the order of the LSNs.
func TestWalksWithoutFaults(t *testing.T) {
	t.Parallel()
	r := rand.New(rand.NewSource(22))
	for range 300 {
		ps := drawnParams(r)
		ps.Store.SegMax = 1000
		x := opened(t, ps)
		was := x.d.Count()
		x.walk(r, 60, true)
		now := x.d.Count()
		catalogs := now.Renames - was.Renames
		rolls := now.Creates - was.Creates - catalogs // each of them creates a segment beside its catalog
		if n, want := now.Syncs-was.Syncs, x.e.Look().Batches+catalogs+2*rolls; n != want {
			x.wrong("what follows: one Sync a batch beside those of its rolls", n, want)
		}
		if x.e.Look().Closing {
			same(t, "all lasts", x.e.Look().Durable, x.e.Look().Reserved)
			continue
		}
		same(t, "all lasts", x.alone(syncs()), "0 0 ")
		l := x.e.Look()
		same(t, "all lasts", fmt.Sprint(l.Durable, l.Held, l.Line), fmt.Sprint(l.Reserved, 0, 0))
		g := given{}
		g.keeps(x)
		for lsn := l.First; lsn < l.Reserved; lsn++ {
			same(t, "the records", x.alone(read(lsn)), fmt.Sprintf("0 %d %s", lsn, g[lsn]))
		}
		for _, c := range x.p.calls {
			if c.record != 0 {
				same(t, "no record is lost", c.result.Err, api.OK)
			}
		}
	}
}

// n writers that wait when a batch is taken, and whose records are in it, cost one Sync.
func TestOneSyncForAll(t *testing.T) {
	for n := 1; n <= 256; n += 51 {
		x := opened(t, changed(func(p *api.EngineParams) {
			p.Store.SegMax, p.QueueCap, p.QueueBytes, p.Pace.Most, p.Pace.Bytes = 1<<20, 300, 1<<20, 256, 1<<20
		}))
		for range n {
			x.call(app("w"))
		}
		was := x.d.Count()
		x.step(n, n, n, n)
		now := x.d.Count()
		same(t, "one Append, one Sync", fmt.Sprint(now.Appends-was.Appends, now.Syncs-was.Syncs, now.All-was.All), "1 1 2")
		for id := 1; id <= n; id++ {
			x.step(id)
		}
		same(t, "all are done", fmt.Sprint(x.e.Look().Durable, len(x.e.Ready())), fmt.Sprint(n+1, 0))
	}
}
