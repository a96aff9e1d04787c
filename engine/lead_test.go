package engine_test

import (
	"fmt"
	"math"
	"testing"

	"flume/api"
)

// held is a twin with Asyncs of so many bytes each, and one Sync, the last call, that leads.
func held(t *testing.T, ps api.EngineParams, sizes ...int) *twin {
	t.Helper()
	x := opened(t, ps)
	for i, n := range sizes {
		x.call(async(fmt.Sprintf("%*d", n, i)[:n]))
	}
	id := x.begin(syncs())
	x.step(id, id)
	return x
}

// takes tells how many records the leader takes.
func (x *twin) takes() int {
	x.t.Helper()
	id := x.e.Look().Leader
	x.step(id, id, id)
	return int(x.e.Look().Durable - x.e.Look().First)
}

// A batch has at most Most records and Bytes bytes, of frames, but the first one whatever it has.
func TestBatchBounds(t *testing.T) {
	ps := func(most, bytes int) api.EngineParams {
		return changed(func(p *api.EngineParams) {
			p.QueueCap, p.QueueBytes, p.Pace.Most, p.Pace.Bytes = 20, 10000, most, bytes
		})
	}
	for _, k := range []struct {
		what  string
		ps    api.EngineParams
		sizes []int
		takes int
	}{
		{"one less than Most", ps(4, 1000), []int{1, 1, 1}, 3},
		{"just Most", ps(4, 1000), []int{1, 1, 1, 1}, 4},
		{"one above Most", ps(4, 1000), []int{1, 1, 1, 1, 1}, 4},
		{"Most is 1", ps(1, 1000), []int{1, 1, 1, 1, 1}, 1},
		{"one less than Bytes", ps(9, 100), []int{4, 24, 23}, 3},
		{"just Bytes", ps(9, 100), []int{4, 24, 24}, 3},
		{"just Bytes, and one behind it", ps(9, 100), []int{4, 24, 24, 0}, 3},
		{"one above Bytes", ps(9, 100), []int{4, 24, 25}, 2},
		{"one above Bytes, and a small one behind it", ps(9, 100), []int{4, 24, 25, 0}, 2},
		{"the first one just Bytes", ps(9, 100), []int{84, 0}, 1},
		{"the first one above Bytes", ps(9, 100), []int{85, 0}, 1},
		{"the first one far above Bytes", ps(9, 1), []int{4096, 0}, 1},
		{"both just met", ps(3, 100), []int{4, 24, 24, 0}, 3},
	} {
		x := held(t, k.ps, k.sizes...)
		same(t, "P21.3: "+k.what, x.takes(), k.takes)
		same(t, "what is left: "+k.what, x.e.Look().Held, len(k.sizes)-k.takes)
	}
}

// 256 records may go in one batch.
func TestGreatBatch(t *testing.T) {
	x := opened(t, changed(func(p *api.EngineParams) {
		p.Store.SegMax, p.QueueCap, p.QueueBytes, p.Pace = 1<<20, 1024, 1<<24, api.PaceParams{Most: 256, Bytes: 1 << 20, Alpha: 1}
	}))
	for i := range 300 {
		e := async(fmt.Sprint(i))
		id, _ := x.e.Begin(e)
		x.p.begin(e)
		x.e.Step(id)
		x.p.step(id)
	}
	id := x.begin(syncs())
	ops := x.d.Count()
	x.step(id, id, id, id, id)
	same(t, "P21.3: one batch", x.e.Look(), api.EngineLook{First: 1, Durable: 257, Reserved: 301, Held: 44, HeldBytes: 44 * 19, Batches: 1})
	same(t, "one Append and one Sync", x.d.Count().All-ops.All, 2)
	x.step(id, id, id, id, id)
	same(t, "the Sync", x.told(id), "0 0 ")
	for _, lsn := range []int64{1, 256, 257, 300} {
		same(t, "the records", x.alone(read(lsn)), fmt.Sprintf("0 %d %d", lsn, lsn-1))
	}
}

// As a batch is taken, who stands in line comes in, as far as there is room for the first of it.
func TestLineAtGather(t *testing.T) {
	x := opened(t, changed(func(p *api.EngineParams) { p.QueueCap, p.QueueBytes, p.Pace.Most = 3, 100, 2 }))
	x.call(async(long(10)), async(long(20)), async(long(5)), async(long(84)), async(""), async(""), async(""))
	same(t, "Look", x.e.Look(), api.EngineLook{First: 1, Durable: 1, Reserved: 8, Held: 3, HeldBytes: 83, Line: 4})
	x.call(syncs())
	x.step(8)
	same(t, "nobody comes in as it leads", fmt.Sprint(x.e.Look().Held, x.e.Look().Line), "3 4")
	x.step(8)
	same(t, "no room for the first of the line", fmt.Sprint(x.e.Look().Held, x.e.Look().HeldBytes, x.e.Look().Line), "1 21 4")
	x.step(8, 8)
	same(t, "nor behind the Flush", fmt.Sprint(x.e.Look().Held, x.e.Look().HeldBytes, x.e.Look().Line), "1 21 4")
	x.step(8, 8)
	same(t, "it came in, and fills it", fmt.Sprint(x.e.Look().Held, x.e.Look().HeldBytes, x.e.Look().Line), "1 100 3")
	x.step(8, 8, 8, 8)
	same(t, "three came in", fmt.Sprint(x.e.Look().Held, x.e.Look().HeldBytes, x.e.Look().Line), "3 48 0")
	x.want("they are done by steps of their own", map[int]string{4: "in 2", 5: "in 2", 6: "in 2", 7: "in 2"})
	x.step(4, 5, 6, 7)
	x.want("came in", map[int]string{4: "0 4 ", 5: "0 5 ", 6: "0 6 ", 7: "0 7 "})
}

// What comes while a batch is gathered goes with it; what comes behind goes with the next one.
func TestWhatComesLater(t *testing.T) {
	x := opened(t, params())
	x.call(app("a"))
	x.step(1)
	x.call(app("b"), async("c"))
	x.step(1)
	x.call(app("d"))
	x.step(1)
	x.call(async("e"))
	x.step(1)
	same(t, "Look", fmt.Sprint(x.e.Look().Durable, x.e.Look().Reserved, x.e.Look().Held), "4 6 2")
	x.step(1, 2)
	x.want("they last", map[int]string{1: "0 1 ", 2: "0 2 ", 4: "in 3"})
	x.step(4, 4, 4, 4, 4)
	same(t, "Look", fmt.Sprint(x.e.Look().Durable, x.e.Look().Batches), "6 2")
	var got []string
	for lsn := int64(1); lsn < 6; lsn++ {
		got = append(got, x.alone(read(lsn)))
	}
	same(t, "what follows: in the order of their LSNs", got, "[0 1 a 0 2 b 0 3 c 0 4 d 0 5 e]")
}

// A batch costs one Append and one Sync, beside what its rolls do.
func TestOperationsOfABatch(t *testing.T) {
	for _, segMax := range []int{4096, 64, 66, 80} {
		x := opened(t, changed(func(p *api.EngineParams) { p.Store.SegMax = segMax }))
		for n := 1; n <= 4; n++ {
			was := x.d.Count()
			for range n {
				x.call(async("x"))
			}
			x.call(syncs())
			id := len(x.p.calls)
			ahead := x.d.Count()
			x.step(id, id)
			same(t, "ahead of Write there is no operation", x.d.Count(), ahead)
			x.step(id)
			wrote := x.d.Count()
			x.step(id)
			now := x.d.Count()
			rolls := now.Renames - was.Renames
			same(t, "what follows: one Sync a batch beside those of its rolls", now.Syncs-was.Syncs, 1+3*rolls)
			same(t, "the Flush is one Sync", fmt.Sprint(now.Syncs-wrote.Syncs, now.All-wrote.All), "1 1")
			if segMax == 4096 {
				same(t, "the Write is one Append", fmt.Sprint(wrote.Appends-ahead.Appends, wrote.All-ahead.All), "1 1")
			}
			x.step(id)
		}
	}
}

// Where a batch rolls, some of it lasts ahead of its Sync: who waited for that is woken while there is a leader.
func TestRollWakes(t *testing.T) {
	x := opened(t, changed(func(p *api.EngineParams) { p.Store.SegMax = 64 }))
	x.call(app("a"), app("b"), app("c"), next(2), next(3), syncs())
	x.step(6, 6, 6)
	same(t, "two last", fmt.Sprint(x.e.Look().Durable, x.e.State(6)), "3 8")
	x.wantReady("woken", 1, 2, 4, 6)
	x.step(1, 2, 4)
	x.want("P21.3: ahead of the Flush", map[int]string{1: "0 1 ", 2: "0 2 ", 4: "0 2 b", 3: "in 3", 5: "in 4"})
	x.outcomes("P21.3: ahead of the Flush", outcome{read(2), "0 2 b"}, outcome{read(3), "42 0 "}, outcome{next(1), "0 1 a"}, outcome{truncate(2), "in 5"})
	x.step(6)
	x.step(6, 5, 3, 10)
	x.want("behind it", map[int]string{3: "0 3 ", 5: "0 3 c", 6: "0 0 ", 10: "0 0 "})
}

// lingers is a twin in which two records are wanted of a batch, and one lasts one Linger.
func lingers(t *testing.T, linger float64) *twin {
	t.Helper()
	x := opened(t, changed(func(p *api.EngineParams) { p.Pace = api.PaceParams{Most: 4, Bytes: 200, Linger: linger, Alpha: 0.5} }))
	x.call(async("a"), async("b"), async("c"), syncs())
	x.step(4, 4, 4, 4, 4)
	same(t, "a batch of three", fmt.Sprint(x.told(4), x.e.Look().Now), "0 0 0")
	return x
}

func TestTick(t *testing.T) {
	x := opened(t, changed(func(p *api.EngineParams) { p.Pace.Linger = 0.25 }))
	still := func(what string) {
		t.Helper()
		now := x.e.Look().Now
		same(t, "P21.4: Tick "+what, x.tick(), false)
		same(t, "P21.4: Now "+what, x.e.Look().Now, now)
	}
	still("of nothing")
	x = lingers(t, 0.25)
	still("with no leader")
	x.call(app("d"))
	still("with one that might lead")
	x.step(5)
	same(t, "it waits", fmt.Sprint(x.told(5), x.e.Step(5)), fmt.Sprint("in 6", api.ErrBusy))
	x.wantReady("Linger")
	same(t, "P21.4: Tick", x.tick(), true)
	same(t, "P21.4: Now", x.e.Look().Now, 0.25)
	x.wantReady("its time has come", 5)
	still("with a leader that is ready")
	x.step(5)
	still("in Write")
	x.step(5)
	still("in Flush")
	x.step(5)
	still("behind the Flush")
	x.step(5)
	still("done")
	x.call(app("e"))
	x.step(6)
	x.wantReady("1.5 are wanted now")
	x.call(async("f"))
	x.wantReady("two are held: no time is waited for", 6)
	still("of a batch that is large enough")
	same(t, "Now", x.e.Look().Now, 0.25)
	x.step(6, 6, 6, 6)
	x.want("it went with the other", map[int]string{6: "0 5 ", 7: "0 6 "})
}

// A batch that is smaller than what is wanted goes by its bytes, or waits.
func TestWanted(t *testing.T) {
	x := lingers(t, 7)
	x.call(app("d"))
	x.step(5)
	x.wantReady("two are wanted")
	x.call(app(long(184 - 17)))
	x.wantReady("its bytes are enough, and two are held", 5)
	x = lingers(t, 7)
	x.call(app(long(183)))
	x.step(5)
	x.wantReady("199 bytes")
	x = lingers(t, 7)
	x.call(app(long(184)))
	x.step(5)
	x.wantReady("200 bytes", 5)
}

// Once it has been waited for, the next batch waits anew, from when it is begun.
func TestLingerOfEachBatch(t *testing.T) {
	x := lingers(t, 3)
	x.call(app("d"))
	x.step(5)
	x.tick()
	x.step(5, 5, 5, 5)
	same(t, "Now", fmt.Sprint(x.e.Look().Now, x.told(5)), "30 4 ")
	x.call(app("e"), next(6))
	x.step(6)
	x.wantReady("begun at 3")
	same(t, "P21.4: Tick", fmt.Sprint(x.tick(), x.e.Look().Now), "true 6")
	x.step(6, 6, 6, 6)
	x.call(async("f"))
	x.step(7)
	x.wantReady("a Next that leads waits too")
	same(t, "P21.4: Tick", fmt.Sprint(x.tick(), x.e.Look().Now), "true 9")
	x.step(7, 7, 7, 7)
	x.want("the records", map[int]string{6: "0 5 ", 7: "0 6 f"})
}

// A Linger of 0 waits for nothing.
func TestNoLinger(t *testing.T) {
	for _, linger := range []float64{0, math.Copysign(0, -1)} {
		x := lingers(t, linger)
		x.call(app("d"))
		x.step(5)
		x.wantReady("no Linger", 5)
		same(t, "P21.4: Tick", x.tick(), false)
		same(t, "P0.7: Now is +0", math.Float64bits(x.e.Look().Now), 0)
		x.step(5, 5, 5, 5)
	}
}

// Where Now + Wait is rounded to a time that is too early, the time goes to the next one behind it.
func TestTickBeyondRounding(t *testing.T) {
	for _, linger := range []float64{0.1, 0.3, 1e-3, 5e-324, 1e-300, 1 << 20, 1<<20 - 1.0/1024, math.Nextafter(1<<20, 0), 1.0 / 3} {
		x := lingers(t, linger)
		now, short := 0.0, 0
		for range 40 {
			x.call(app("x"))
			id := len(x.p.calls)
			x.step(id)
			if x.e.Look().Leader != id || len(x.e.Ready()) > 0 {
				break // one is wanted, by now
			}
			sum := now + linger
			want := sum
			if want-now < linger {
				want = math.Nextafter(sum, math.Inf(1))
				short++
			}
			same(t, "P21.4: Tick", x.tick(), true)
			if l := x.e.Look(); l.Now != want || l.Now-now < linger {
				t.Fatalf("P21.4: Linger %v, at %v: Now is %v, want %v", linger, now, l.Now, want)
			}
			x.wantReady("its time has come", id)
			now = want
			x.step(id, id, id, id)
		}
		if linger == 0.1 && short == 0 {
			t.Fatal("no sum was too short: the test is none")
		}
	}
}

// A Linger that is nothing beside the time: it goes on by the least that it can.
func TestTickOfATinyLinger(t *testing.T) {
	x := lingers(t, 5e-324)
	for i := range 5 {
		x.call(app("x"))
		id := len(x.p.calls)
		x.step(id)
		same(t, "P21.4: Tick", x.tick(), true)
		same(t, "P21.4: Now", math.Float64bits(x.e.Look().Now), i+1)
		x.step(id, id, id, id)
	}
}

// While a batch waits for its time others are served, and it goes when they have filled it.
func TestOthersWhileOneLingers(t *testing.T) {
	x := lingers(t, 1000)
	x.call(app("d"), next(4), next(1), read(2), truncate(2), syncs(), closes())
	x.step(5)
	x.wantReady("5 lingers")
	x.want("served", map[int]string{5: "in 6", 6: "in 4", 7: "0 1 a", 8: "0 2 b", 9: "0 0 ", 10: "in 3", 11: "in 3"})
	x.outcomes("closing", outcome{app("e"), "41 0 "})
	same(t, "P21.4: Tick", fmt.Sprint(x.tick(), x.e.Look().Now), "true 1000")
	x.step(5, 5, 5, 5, 6, 10, 11)
	x.want("all are done", map[int]string{5: "0 4 ", 6: "0 4 d", 10: "0 0 ", 11: "0 0 "})
}
