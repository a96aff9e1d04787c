package model_test

import (
	"fmt"
	"math/rand"
	"testing"

	"flume/api"
	"flume/disk"
	"flume/engine"
	"flume/model"
	"flume/wal"
)

// log is one whose calls one hand makes, one behind the other.
type log interface {
	do(t *testing.T, c api.Call) api.Result
	look() api.EngineLook
}

// ofWal is a log of package wal.
type ofWal struct{ l *wal.Log }

func (w ofWal) look() api.EngineLook { return w.l.Look() }

func (w ofWal) do(_ *testing.T, c api.Call) api.Result {
	var r api.Result
	var rec api.Record
	switch c.Kind {
	case add:
		r.LSN, r.Err = w.l.Append(c.Data)
	case async:
		r.LSN, r.Err = w.l.AppendAsync(c.Data)
	case syncs:
		r.Err = w.l.Sync()
	case read:
		rec, r.Err = w.l.Read(c.LSN)
		r.LSN, r.Data = rec.LSN, rec.Data
	case next:
		rec, r.Err = w.l.From(c.LSN).Next()
		r.LSN, r.Data = rec.LSN, rec.Data
	case trunc:
		// TruncateFront answers no LSN, as an engine's call does where it failed behind its own step: the front tells.
		was := w.l.Look().First
		r.Err = w.l.TruncateFront(c.LSN)
		if r.Err == failed && w.l.Look().First != was {
			r.LSN = w.l.Look().First
		}
	case shut:
		r.Err = w.l.Close()
	}
	return r
}

// ofEngine is an engine, of whose calls each is made to its end ahead of the next one.
type ofEngine struct{ e *engine.Engine }

func (w ofEngine) look() api.EngineLook { return w.e.Look() }

func (w ofEngine) do(t *testing.T, c api.Call) api.Result {
	id, err := w.e.Begin(c)
	same(t, "begun", err, api.OK)
	for {
		if r, done := w.e.Result(id); done {
			return r
		}
		if w.e.Step(id) != api.OK && !w.e.Tick() {
			t.Fatalf("%s is stuck", callText(c))
		}
	}
}

func logs(t *testing.T, p api.EngineParams, faults ...api.Fault) []log {
	t.Helper()
	d, twin := disk.New(1<<20), disk.New(1<<20)
	l, _, err := wal.Open(d, p)
	same(t, "wal.Open", err, api.OK)
	e, _, err := engine.New(twin, p)
	same(t, "engine.New", err, api.OK)
	same(t, "the faults", []any{d.Arm(faults...), twin.Arm(faults...)}, []any{api.OK, api.OK})
	return []log{ofWal{l}, ofEngine{e}}
}

func params(segMax, queue, most int) api.EngineParams {
	return api.EngineParams{
		Store: api.Params{SegMax: segMax, Base: 3}, QueueCap: queue, QueueBytes: 100,
		Pace: api.PaceParams{Most: most, Bytes: 80, Linger: 0.5, Alpha: 0.5},
	}
}

// outcome is what came of a call, and whether with an LSN.
type outcome struct {
	kind     int
	err      api.Errno
	numbered bool
}

// hand makes the calls that a choice gives, asks whether each result may be, and counts them.
func hand(t *testing.T, what string, l log, base int64, rounds int, came map[outcome]int, choice func(api.EngineLook) api.Call) {
	t.Helper()
	m, _ := model.New(base)
	for i := range rounds {
		k := l.look()
		c := choice(k)
		if c.Kind == next && c.LSN >= k.Reserved && !k.Failed && !k.Closed {
			continue // a cursor of wal makes no call of it, and in an engine it waits
		}
		r := l.do(t, c)
		came[outcome{c.Kind, r.Err, r.LSN != 0}]++
		n, ok := model.Apply(m, c, r)
		if !ok {
			t.Fatalf("what follows: %s: %d: %s %s in %+v", what, i, callText(c), resultText(r), plainOf(m))
		}
		if !bounded(n) || n.Durable > l.look().Durable || n.First != l.look().First {
			t.Fatalf("what follows: %s: %d: %s: %+v, but the log is %+v", what, i, callText(c), plainOf(n), l.look())
		}
		m = n
	}
}

func allCame(t *testing.T, came map[outcome]int, l ...outcome) {
	t.Helper()
	for _, o := range l {
		if came[o] == 0 {
			t.Errorf("nothing came to %+v", o)
		}
	}
}

// oftenCame are outcomes without which a test of logs that fail would say little.
func oftenCame() []outcome {
	return []outcome{
		{add, 0, true}, {add, failed, true}, {add, failed, false}, {add, closed, false},
		{async, 0, true}, {async, failed, true}, {async, failed, false},
		{syncs, 0, false}, {syncs, failed, false}, {syncs, closed, false},
		{read, 0, true}, {read, notYet, false}, {read, belowIt, false}, {read, down, false}, {read, closed, false},
		{next, 0, true}, {next, failed, false}, {next, down, false},
		{trunc, 0, false}, {trunc, failed, false}, {trunc, failed, true}, {trunc, closed, false},
		{shut, 0, false}, {shut, failed, false},
	}
}

// course is a fixed row of calls that writes, reads all along, and cuts.
func course() func(api.EngineLook) api.Call {
	kinds := []int{async, async, async, read, add, read, async, next, syncs, trunc, async, async, async, async, trunc, add, next, shut, read, add, trunc}
	i := 0
	return func(k api.EngineLook) api.Call {
		at := i / 8
		i++
		if at >= len(kinds) {
			return call(syncs, 0, "")
		}
		if i%8 > 0 { // between any two, what is around First and Durable and Reserved is read
			return call(read, []int64{k.First - 1, k.First, k.Durable - 1, k.Durable, k.Reserved - 1, k.Reserved, k.Reserved + 1}[i%8-1], "")
		}
		switch kinds[at] {
		case add, async:
			return call(kinds[at], 0, fmt.Sprint("record ", at))
		case read, next:
			return call(kinds[at], k.Reserved-1, "")
		case trunc:
			return call(trunc, k.Durable, "")
		}
		return call(kinds[at], 0, "")
	}
}

// What one hand gets of a log, without faults, and with a fault of each kind at each operation.
func TestOneHand(t *testing.T) {
	came := map[outcome]int{}
	for _, p := range []api.EngineParams{params(64, 2, 1), params(64, 4, 8), params(4096, 3, 2)} {
		faults := [][]api.Fault{nil}
		for at := int64(1); at <= 90; at++ {
			for kind := api.FaultIO; kind <= api.FaultPanic; kind++ {
				faults = append(faults, []api.Fault{{At: at, Kind: kind, Part: int(at % 20)}})
			}
		}
		for _, fs := range faults {
			for i, l := range logs(t, p, fs...) {
				hand(t, fmt.Sprintf("%+v, faults %+v, log %d", p, fs, i), l, 3, 180, came, course())
			}
		}
	}
	allCame(t, came, oftenCame()...)
}

// Drawn calls, with params and faults as drawn.
func TestOneHandWalks(t *testing.T) {
	came := map[outcome]int{}
	for seed := range int64(300) {
		random := rand.New(rand.NewSource(seed))
		p := params(64+random.Intn(100), 1+random.Intn(5), 1+random.Intn(5))
		var fs []api.Fault
		if seed%3 > 0 {
			fs = append(fs, api.Fault{At: int64(1 + random.Intn(120)), Kind: 1 + random.Intn(4), Part: random.Intn(40)})
		}
		for i, l := range logs(t, p, fs...) {
			choice := func(k api.EngineLook) api.Call {
				kind := []int{add, add, async, async, async, async, syncs, read, read, read, next, next, trunc, trunc, 0}[random.Intn(15)]
				switch kind {
				case add, async:
					data := make([]byte, random.Intn(40)*(1+random.Intn(20)/19*100)) // now and then too long for the queue, or for a record
					random.Read(data)
					return api.Call{Kind: kind, Data: data}
				case 0:
					kind = syncs
					if random.Intn(10) == 0 {
						kind = shut
					}
				case read, next, trunc:
					return call(kind, k.First-2+random.Int63n(k.Reserved-k.First+5), "")
				}
				return call(kind, 0, "")
			}
			hand(t, fmt.Sprintf("seed %d, log %d", seed, i), l, 3, 200, came, choice)
		}
	}
	allCame(t, came, append(oftenCame(), outcome{add, long, false}, outcome{async, long, false}, outcome{trunc, bounds, false}, outcome{next, belowIt, false})...)
}

// A log up to its last number.
func TestOneHandAtTheEnd(t *testing.T) {
	p := params(64, 2, 2)
	p.Store.Base = top - 3
	for i, l := range logs(t, p) {
		n, came := 0, map[outcome]int{}
		hand(t, fmt.Sprintf("at the end, log %d", i), l, top-3, 16, came, func(api.EngineLook) api.Call {
			n++
			return call([]int{async, add, async, async, add, syncs, read, trunc}[n%8], []int64{0, 0, 0, 0, 0, 0, top - 1, top}[n%8], "")
		})
		allCame(t, came, outcome{add, end, false}, outcome{async, end, false}, outcome{read, 0, true}, outcome{trunc, 0, false})
	}
}
