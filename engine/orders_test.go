package engine_test

import (
	"encoding/binary"
	"fmt"
	"math"
	"slices"
	"testing"

	"flume/api"
	"flume/disk"
)

// beginning is how a log stands ahead of the calls whose orders are played.
type beginning struct {
	what   string
	ps     api.EngineParams
	d      *disk.Disk // with a log
	ahead  []api.Call // made to their ends, in order, ahead of it all
	faults []api.Fault
}

// tickTurn stands for a tick among the numbers of calls, of which one makes a step.
const tickTurn = 0

// begun is a twin in which the calls were begun, and made no step.
func (b beginning) begun(t *testing.T, cs []api.Call) *twin {
	x := over(t, b.d.Copy(), b.ps)
	x.trace[0].what = b.what
	for _, c := range b.ahead {
		id := x.begin(c)
		for x.e.State(id) != api.StateDone {
			x.turn(id)
		}
	}
	x.steps, x.ticks = 0, 0
	x.arm(b.faults...)
	for _, c := range cs {
		x.begin(c)
	}
	return x
}

// turn has a call make a step, or the time go on.
func (x *twin) turn(who int) {
	if who == tickTurn {
		x.tick()
		return
	}
	x.step(who)
}

// choices are whose turn it may be.
func (p *plain) choices() []int {
	l := p.ready()
	if c := *p; c.tick() {
		l = append(l, tickTurn)
	}
	return l
}

// orders plays all orders of the turns of calls, each to its end, and tells how many there are.
func (b beginning) orders(t *testing.T, cs []api.Call) int {
	t.Helper()
	var picks, many []int
	for runs := 1; ; runs++ {
		x := b.begun(t, cs)
		for i := 0; ; i++ {
			l := x.p.choices()
			if len(l) == 0 {
				break
			}
			if i == len(picks) {
				picks, many = append(picks, 0), append(many, len(l))
			}
			x.turn(l[picks[i]])
		}
		x.ended(len(cs))
		last := len(picks) - 1
		for last >= 0 && picks[last]+1 == many[last] {
			last--
		}
		if last < 0 {
			return runs
		}
		picks, many = picks[:last+1], many[:last+1]
		picks[last]++
	}
}

// states plays calls to each state that some order of turns leads to, each by all turns that lead on from there, and has f look at it.
func (b beginning) states(t *testing.T, cs []api.Call, f func(x *twin)) int {
	t.Helper()
	seen := map[string]bool{}
	for todo := [][]int{nil}; len(todo) > 0; todo = todo[1:] {
		x := b.begun(t, cs)
		for _, who := range todo[0] {
			x.turn(who)
		}
		key := x.key()
		if seen[key] {
			continue
		}
		seen[key] = true
		f(x)
		l := x.p.choices()
		if len(l) == 0 {
			x.ended(len(cs))
		}
		for _, who := range l {
			todo = append(todo, append(slices.Clip(todo[0]), who))
		}
	}
	return len(seen)
}

// key is all that a plain engine knows, and how many turns there were.
func (x *twin) key() string {
	p := x.p
	l, ops := p.s.Look(), p.d.Count()
	ns := []int64{l.First, l.Durable, l.Next, l.Gen, int64(l.Cause), ops.All, p.reserved, int64(p.leader), p.batches, int64(p.cause), int64(x.steps), int64(x.ticks),
		int64(math.Float64bits(p.begun)), int64(math.Float64bits(p.now)), int64(math.Float64bits(p.wanted)), int64(len(p.held)), int64(len(p.line)), int64(len(p.batch))}
	for _, is := range []bool{l.Closed, l.Failed, p.failed, p.closing} {
		if is {
			ns = append(ns, 1)
		} else {
			ns = append(ns, 0)
		}
	}
	for _, list := range [][]plainItem{p.held, p.line, p.batch} {
		for _, i := range list {
			ns = append(ns, i.lsn)
		}
	}
	var datas []byte
	for _, c := range p.calls {
		ns = append(ns, int64(c.state), int64(c.came), c.record, c.waits, int64(c.result.Err), c.result.LSN, int64(len(c.result.Data)))
		datas = append(datas, c.result.Data...)
	}
	var b []byte
	for _, n := range ns {
		b = binary.AppendVarint(b, n)
	}
	return string(append(b, datas...))
}

// ended holds what follows of a log in which nobody can go on, behind n calls.
func (x *twin) ended(n int) {
	x.t.Helper()
	x.filesAlike()
	if x.tick() || len(x.e.Ready()) > 0 {
		x.wrong("ended", x.e.Ready(), "none")
	}
	for i, c := range x.p.calls {
		if c.state != api.StateDone && (c.kind != api.CallNext || c.lsn < x.p.reserved) {
			x.wrong("what follows: nobody is stuck", fmt.Sprint(i+1, " in ", c.state), "done")
		}
	}
	if x.steps > 7*n || x.ticks > n {
		x.wrong("what follows: every step counts", fmt.Sprint(x.steps, " steps, ", x.ticks, " ticks"), fmt.Sprint("at most 7 and 1 each of ", n))
	}
}

// sets has f look at all sets of so many of these calls, one more than once among them.
func sets(many int, palette []api.Call, f func(cs []api.Call)) {
	var walk func(set, left []api.Call)
	walk = func(set, left []api.Call) {
		if len(set) == many {
			f(set)
			return
		}
		for i, c := range left {
			walk(append(slices.Clip(set), c), left[i:])
		}
	}
	walk(nil, palette)
}

// oneThere is a disk with a log that has one record, the LSN 1.
func oneThere(t *testing.T) *disk.Disk {
	t.Helper()
	d := disk.New(1 << 20)
	x := over(t, d, params())
	same(t, "one record lasts", x.alone(app("one")), "0 1 ")
	return d
}

// palette is a call of each Kind, with LSNs that are there and that are not.
func palette() []api.Call {
	return calls(app("a"), async("b"), syncs(), read(2), next(1), next(2), next(3), truncate(2), truncate(3), closes())
}

// beginnings are logs with the record 1, of which some have little room, some roll, some linger.
func beginnings(t *testing.T) []beginning {
	d := oneThere(t)
	return []beginning{
		{"wide", params(), d, nil, nil},
		{"narrow", changed(func(p *api.EngineParams) { p.QueueCap, p.Pace.Most = 1, 1 }), d, nil, nil},
		{"rolling", changed(func(p *api.EngineParams) { p.Store.SegMax, p.QueueBytes, p.Pace.Bytes = 64, 40, 20 }), d, nil, nil},
		{"lingering", changed(func(p *api.EngineParams) { p.Pace.Linger = 0.5 }), d, calls(async("x"), async("y"), async("z"), syncs(), truncate(1)), nil},
		{"narrow and lingering", changed(func(p *api.EngineParams) { p.QueueCap, p.Pace.Linger, p.Store.SegMax = 2, 0.5, 64 }), d, calls(async("x"), async("y"), syncs()), nil},
	}
}

func TestAllOrdersOfOneAndTwo(t *testing.T) {
	t.Parallel()
	for _, b := range beginnings(t) {
		for many := 1; many <= 2; many++ {
			sets(many, palette(), func(cs []api.Call) { b.orders(t, cs) })
		}
	}
}

func TestAllOrdersOfThree(t *testing.T) {
	t.Parallel()
	for _, b := range beginnings(t)[:3] {
		sets(2, calls(async("b"), syncs(), next(2), truncate(2), closes()), func(cs []api.Call) {
			b.orders(t, append(slices.Clip(cs), app("a")))
		})
	}
}

func TestAllStatesOfThree(t *testing.T) {
	t.Parallel()
	for _, b := range beginnings(t) {
		sets(3, palette(), func(cs []api.Call) { b.states(t, cs, func(x *twin) {}) })
	}
}

func TestAllStatesOfFour(t *testing.T) {
	t.Parallel()
	b := beginnings(t)[1]
	sets(3, calls(app("a"), async("b"), syncs(), next(3), truncate(2), closes()), func(cs []api.Call) {
		if len(cs[1].Data) == 0 { // at most one writes, and one more does so: three have a hundred thousand states
			b.states(t, append(slices.Clip(cs), app("c")), func(x *twin) {})
		}
	})
}

// A fault at each of the first operations, in all states.
func TestAllStatesWithFaults(t *testing.T) {
	t.Parallel()
	for _, b := range beginnings(t)[1:3] {
		sets(2, calls(async("b"), syncs(), next(2), truncate(2), closes()), func(cs []api.Call) {
			cs = append(slices.Clip(cs), app("c"))
			for at := range 10 {
				for _, kind := range []int{api.FaultIO, api.FaultFull + at%3} {
					b.faults = []api.Fault{{At: int64(at + 1), Kind: kind, Part: 9}}
					b.states(t, cs, func(x *twin) {})
				}
			}
		})
	}
}
