package wal_test

import (
	"maps"
	"math/rand"
	"testing"

	"flume/api"
	"flume/disk"
)

func drawnParams(r *rand.Rand) api.EngineParams {
	p := api.EngineParams{
		Store:    api.Params{SegMax: 64 + r.Intn(150), Base: 1 + r.Int63n(20)},
		QueueCap: 1 + r.Intn(6), QueueBytes: 16 + r.Intn(150),
		Pace: api.PaceParams{Most: 1 + r.Intn(5), Bytes: 1 + r.Intn(150), Linger: []float64{0, 0.1, 1.0 / 3, 5}[r.Intn(4)], Alpha: []float64{1, 0.5, 0.1}[r.Intn(3)]},
	}
	if r.Intn(4) == 0 {
		p.Store.SegMax = 1 << 16
	}
	return p
}

// drawnOp is any call of a log that stands so; a Close is rare.
func drawnOp(r *rand.Rand, l api.EngineLook) op {
	data := make([]byte, r.Intn(30))
	if r.Intn(12) == 0 {
		data = make([]byte, r.Intn(200))
	}
	r.Read(data)
	near := func() int64 { return l.First - 2 + r.Int63n(l.Reserved-l.First+6) }
	switch n := r.Intn(60); {
	case n < 10:
		return app(string(data))
	case n < 25:
		return async(string(data))
	case n < 28:
		return syncs()
	case n < 34:
		return read(near())
	case n < 45:
		return next(r.Intn(2))
	case n < 49:
		return stand(r.Intn(2), near())
	case n < 52:
		return nextOf(near())
	case n < 55:
		return all(near())
	case n < 59:
		return truncate(near())
	}
	return []op{closes(), at(0), at(1)}[r.Intn(3)]
}

func drawnFault(r *rand.Rand) api.Fault {
	return api.Fault{At: int64(1 + r.Intn(60)), Kind: 1 + r.Intn(4), Part: r.Intn(60)}
}

// drawnFate is one of what a loss of power may leave of a disk.
func drawnFate(r *rand.Rand, d *disk.Disk) api.Fate {
	f := api.Fate{Dir: r.Intn(d.Pending() + 2)}
	for _, tail := range d.Tails(f.Dir) {
		k := api.Keep{N: r.Intn(tail.N + 1)}
		if r.Intn(2) == 0 {
			k.N = r.Intn(2) * tail.N
		}
		if r.Intn(4) == 0 {
			k.Junk = make([]byte, r.Intn(40))
			for i := range k.Junk {
				k.Junk[i] = 0xff
			}
		}
		f.Keeps = append(f.Keeps, k)
	}
	return f
}

// Logs that are called, fail, lose the power and are opened again as drawn, all along like a plain one.
func TestWalks(t *testing.T) {
	t.Parallel()
	r := rand.New(rand.NewSource(22))
	for range 600 {
		ps := drawnParams(r)
		x := opened(t, ps)
		for range 5 {
			if r.Intn(2) == 0 {
				x.arm(drawnFault(r))
			}
			for range 30 {
				x.do(drawnOp(r, x.l.Look()))
			}
			x.filesAlike()
			f := drawnFate(r, x.d)
			c := x.d.Copy()
			c.Crash(f)
			x.opensWell("behind a loss of power", c)
			if r.Intn(2) == 0 || !x.d.Up() {
				x.d.Crash(f)
			}
			x.d.Arm()
			y := over(t, x.d, ps)
			y.given, y.owed, y.asked = maps.Clone(x.given), y.l.Look().Durable, map[int64]int{}
			x = y
		}
	}
}
