package engine_test

import (
	"fmt"
	"testing"

	"flume/api"
)

func narrow() api.EngineParams {
	return changed(func(p *api.EngineParams) { p.QueueCap, p.Pace.Most = 1, 1 })
}

// batch has a call that is ready lead, gather, write and flush.
func (x *twin) batch(id int) {
	x.t.Helper()
	x.step(id, id, id, id)
}

// Who stands in line comes in as a batch goes: an Async is done then, an Append waits.
func TestLineComesIn(t *testing.T) {
	x := opened(t, changed(func(p *api.EngineParams) { p.QueueCap = 2 }))
	x.call(app("a"), app("b"), app("c"), async("d"), app("e"), async("f"))
	x.want("without room", map[int]string{3: "in 2", 4: "in 2", 5: "in 2", 6: "in 2"})
	x.wantReady("nobody leads", 1, 2, 3, 4, 5, 6)
	x.step(1)
	x.wantReady("the queue is full, and 1 leads", 1)
	x.step(1)
	x.wantReady("3 and 4 came in", 1, 3, 4)
	x.want("they are in line till their step", map[int]string{3: "in 2", 4: "in 2"})
	x.step(4, 3)
	x.want("P21.3: from Line", map[int]string{3: "in 3", 4: "0 4 "})
	x.wantReady("1 leads", 1)
	x.step(1, 1)
	x.wantReady("nobody leads; 1 and 2 last", 1, 2, 3, 5, 6)
	x.step(1, 2, 3)
	x.want("3 leads from Wait", map[int]string{1: "0 1 ", 2: "0 2 ", 3: "in 6"})
	x.step(3, 3, 3, 3)
	x.step(5, 5, 5, 5, 5, 5, 6)
	x.want("all are done", map[int]string{3: "0 3 ", 5: "0 5 ", 6: "0 6 "})
}

// One that stands far behind leads, and goes back to Line until its own record came in.
func TestLeadsFromLine(t *testing.T) {
	for _, c := range calls(app("d"), async("d")) {
		x := opened(t, narrow())
		x.call(async("a"), async("b"), async("c"), c)
		for i, lasts := range []int64{2, 3} {
			x.step(4)
			same(t, "it leads", fmt.Sprint(x.told(4), " ", x.e.Look().Leader), "in 6 4")
			x.step(4, 4, 4)
			same(t, "P21.3: back in Line", x.told(4), "in 2")
			same(t, "a batch went", fmt.Sprint(x.e.Look().Durable, x.e.Look().Batches, x.e.Look().Leader), fmt.Sprint(lasts, i+1, 0))
			same(t, "who came in", fmt.Sprint(x.e.Look().Held, x.e.Look().Line), fmt.Sprint(1, 2-i))
		}
		x.batch(4)
		same(t, "P21.3: its record came in as it led", x.told(4), "in 2")
		x.step(4)
		if c.Kind == api.CallAsync {
			same(t, "P21.3: an Async is done", x.told(4), "0 4 ")
			same(t, "its record need not last", x.e.Look().Durable, 4)
			continue
		}
		same(t, "P21.3: an Append waits", x.told(4), "in 3")
		x.batch(4)
		same(t, "P21.3: back in Wait", x.told(4), "in 3")
		x.step(4)
		same(t, "it lasts", x.told(4), "0 4 ")
		same(t, "P21.4: Batches", x.e.Look().Batches, 4)
	}
}

// A record that came in, and was written and synced, ahead of the next step of its call.
func TestLineOfWhatLasts(t *testing.T) {
	x := opened(t, narrow())
	x.call(async("a"), app("b"), async("c"), syncs())
	for range 3 {
		x.batch(4)
	}
	x.step(2, 3, 4)
	x.want("came in long ago", map[int]string{2: "in 3", 3: "0 3 ", 4: "0 0 "})
	x.wantReady("it lasts", 2)
	x.step(2)
	x.want("it lasts", map[int]string{2: "0 2 "})
}

// Failed stands ahead of all in Line, by the chapter's words also where the record lasts; in Wait what lasts does.
func TestLineAndWaitOfAFailedLog(t *testing.T) {
	x := opened(t, narrow())
	x.call(app("a"), app("b"), async("c"), app("d"), app("e"), async("f"), syncs())
	x.step(4, 4, 4, 4, 4, 4, 4, 4) // two batches
	x.step(2)
	x.want("1 and 2 last", map[int]string{1: "in 3", 2: "in 3", 3: "in 2", 4: "in 2", 5: "in 2", 6: "in 2"})
	x.arm(api.Fault{At: 2, Kind: api.FaultIO})
	x.batch(7)
	same(t, "Look", x.e.Look(), api.EngineLook{First: 1, Durable: 3, Reserved: 7, Batches: 2, Failed: true, Cause: api.ErrIO})
	x.wantReady("all of them", 1, 2, 3, 4, 5, 6, 7)
	x.step(7, 6, 5, 4, 3, 2, 1)
	x.want("P21.3", map[int]string{1: "0 1 ", 2: "0 2 ", 3: "40 3 ", 4: "40 4 ", 5: "40 5 ", 6: "40 6 ", 7: "40 0 "})

	x = opened(t, narrow())
	x.call(app("a"), app("b"), app("c"))
	x.step(1, 1, 1, 1)
	x.step(3, 3, 3, 3) // 2 came in, and lasts
	x.arm(api.Fault{At: 1, Kind: api.FaultIO})
	x.step(3, 3, 3, 3)
	same(t, "Look", fmt.Sprint(x.e.Look().Failed, x.e.Look().Durable), "true 3")
	x.step(2)
	x.want("P21.3: ErrFailed stands ahead of that it came in", map[int]string{2: "40 2 "})
}

// whoLeads are calls that might all lead: in Line, in Wait, and in Tail.
func whoLeads(t *testing.T) *twin {
	t.Helper()
	x := opened(t, changed(func(p *api.EngineParams) { p.QueueCap = 2 }))
	x.call(async("a"), app("b"), app("c"), async("d"), syncs(), next(1), next(4), next(5), closes())
	return x
}

func TestWhoLeads(t *testing.T) {
	x := whoLeads(t)
	x.wantReady("nobody leads", 2, 3, 4, 5, 6, 7, 9)
	for _, who := range []int{2, 3, 4, 5, 6, 7, 9} {
		x := whoLeads(t)
		came := x.told(who)
		for _, state := range []string{"in 6", "in 7", "in 8"} {
			x.step(who)
			same(t, fmt.Sprint("P21.4: ", who, " leads"), fmt.Sprint(x.told(who), x.e.Look().Leader), fmt.Sprint(state, who))
		}
		x.step(who)
		same(t, "P21.3: back where it came from", fmt.Sprint(x.told(who), x.e.Look().Leader), came+"0")
		same(t, "Look", x.e.Look(), api.EngineLook{First: 1, Durable: 3, Reserved: 5, Held: 2, HeldBytes: 34, Batches: 1, Closing: true})
		for x.e.Ready() != nil {
			x.step(x.e.Ready()[0])
		}
		x.want("all are done", map[int]string{1: "0 1 ", 2: "0 2 ", 3: "0 3 ", 4: "0 4 ", 5: "0 0 ", 6: "0 1 a", 9: "0 0 "})
		x.want("the log was closed ahead of these", map[int]string{8: "41 0 "})
	}
}

// While one leads nobody else does.
func TestOneLeads(t *testing.T) {
	x := whoLeads(t)
	x.step(5)
	x.wantReady("5 gathers", 5)
	x.step(5)
	x.wantReady("3 and 4 came in", 3, 4, 5)
	x.step(5, 3, 4)
	x.wantReady("5 flushes", 5)
	x.step(5)
	x.wantReady("nobody leads; 1 and 2 last", 2, 3, 5, 6, 7, 9)
}

// A Sync that leads goes back to Wait until all that was reserved ahead of it lasts.
func TestLeadsSeveralTimes(t *testing.T) {
	x := opened(t, narrow())
	x.call(async("a"), async("b"), async("c"), syncs(), async("d"))
	for i := range 3 {
		x.batch(4)
		same(t, "P21.3: back in Wait", fmt.Sprint(x.told(4), " ", x.e.Look().Durable), fmt.Sprint("in 3 ", i+2))
	}
	x.step(4)
	same(t, "P21.3: what was reserved later need not last", fmt.Sprint(x.told(4), x.e.Look().Durable), "0 0 4")
	x.call(next(4))
	x.batch(6)
	same(t, "P21.3: back in Tail", x.told(6), "in 4")
	x.step(6)
	same(t, "the record", x.told(6), "0 4 d")
}

func TestTailWaits(t *testing.T) {
	x := lasting(t, params(), 1)
	x.call(next(2), next(3), next(4))
	x.wantReady("no LSN is reserved")
	x.call(async("b"))
	x.wantReady("2 is reserved", 2)
	x.call(async("c"))
	x.wantReady("2 and 3 are reserved", 2, 3)
	x.step(3)
	x.wantReady("3 leads", 3)
	x.step(3, 3)
	x.wantReady("3 flushes", 3)
	x.step(3)
	x.wantReady("woken by the Flush", 2, 3)
	x.step(2, 3)
	x.want("P21.3: the records", map[int]string{2: "0 2 b", 3: "0 3 c", 4: "in 4"})
	x.wantReady("4 is not reserved")
	x.call(closes())
	x.wantReady("woken by the Close", 4)
	x.step(4)
	x.want("P21.3: closed", map[int]string{4: "41 0 "})
}

// Closing alone wakes nobody: what is reserved is waited for.
func TestTailWhileClosing(t *testing.T) {
	x := lasting(t, params(), 1)
	x.call(next(2), next(3), async("b"), closes())
	x.wantReady("closing", 2, 5)
	x.batch(2)
	same(t, "Look", fmt.Sprint(x.e.Look().Closing, x.e.Look().Closed), "true false")
	x.wantReady("not closed yet", 2, 5)
	x.step(2)
	x.want("P21.3: while closing", map[int]string{2: "0 2 b", 3: "in 4"})
	x.step(5, 3)
	x.want("P21.3: closed", map[int]string{3: "41 0 ", 5: "0 0 "})
}

// Once the store is closed a Tail is ErrClosed, whatever lasts or was cut.
func TestTailOfAClosedLog(t *testing.T) {
	x := lasting(t, params(), 1)
	x.call(next(2), next(3), next(4), app("b"), app("c"))
	x.batch(5)
	same(t, "Truncate", x.alone(truncate(3)), "0 0 ")
	x.call(closes())
	x.wantReady("woken", 2, 3, 4, 5, 6)
	x.step(2, 3, 4, 5, 6)
	x.want("P21.3: closed", map[int]string{2: "41 0 ", 3: "41 0 ", 4: "41 0 ", 5: "0 2 ", 6: "0 3 "})

	x = lasting(t, params(), 1)
	x.call(next(2), next(9))
	x.fails()
	x.call(closes())
	x.step(2, 3)
	x.want("P21.3: ErrClosed ahead of ErrFailed", map[int]string{2: "41 0 ", 3: "41 0 "})
}

// A Truncate may go past a Next that waits.
func TestTailThatIsTruncated(t *testing.T) {
	x := lasting(t, params(), 1)
	x.call(next(2), next(3), next(4), next(5), async("b"), async("c"), async("d"), syncs())
	x.batch(9)
	same(t, "Truncate", x.alone(truncate(4)), "0 0 ")
	x.wantReady("woken", 2, 3, 4, 9)
	x.step(2, 3, 4, 9)
	x.want("P21.3: below First", map[int]string{2: "43 0 ", 3: "43 0 ", 4: "0 4 d", 5: "in 4", 9: "0 0 "})
	x = lasting(t, params(), 1)
	x.call(next(2), next(3), next(4), async("b"), async("c"), syncs())
	x.batch(7)
	same(t, "Truncate", x.alone(truncate(3)), "0 0 ")
	x.fails()
	x.step(2, 3, 4)
	x.want("P21.3: what is there, and what was cut, of a failed log too", map[int]string{2: "43 0 ", 3: "0 3 c", 4: "40 0 "})
}

// A failure wakes all Tails; what lasts is told all the same.
func TestTailOfAFailedLog(t *testing.T) {
	x := lasting(t, params(), 1)
	x.call(next(2), next(3), next(4), next(99), app("b"), app("c"))
	x.batch(6)
	x.call(app("d"))
	x.arm(api.Fault{At: 1, Kind: api.FaultPanic})
	x.step(8, 8, 8)
	same(t, "Look", fmt.Sprint(x.e.Look().Failed, x.e.Look().Durable, x.e.Look().Reserved), "true 4 5")
	x.wantReady("woken", 2, 3, 4, 5, 6, 7, 8)
	x.step(2, 3, 4, 5, 6, 7, 8)
	x.want("P21.3", map[int]string{2: "0 2 b", 3: "0 3 c", 4: "40 0 ", 5: "40 0 ", 6: "0 2 ", 7: "0 3 ", 8: "40 4 "})
	x.outcomes("P21.3: a Next that is begun later", outcome{next(4), "in 4"}, outcome{next(3), "0 3 c"})
	x.step(9)
	x.want("P21.3", map[int]string{9: "40 0 "})
}

// The store's error ends a Tail, too.
func TestTailOfADiskThatIsDown(t *testing.T) {
	x := lasting(t, params(), 1)
	x.call(next(2), next(3), app("b"), app("c"))
	x.batch(4)
	x.arm(api.Fault{At: 1, Kind: api.FaultPower})
	x.d.SyncDir()
	x.p.d.SyncDir()
	x.step(2, 3)
	x.want("P21.3: the store's error", map[int]string{2: "22 0 ", 3: "22 0 "})
}

// A Truncate waits for the leader, in whichever of its states that is.
func TestGate(t *testing.T) {
	for ahead := 1; ahead <= 3; ahead++ {
		x := lasting(t, params(), 2)
		x.call(app("c"))
		for range ahead {
			x.step(3)
		}
		x.call(truncate(2), truncate(0), truncate(4), truncate(5))
		x.want("P21.3: there is a leader", map[int]string{4: "in 5", 5: "in 5", 6: "in 5", 7: "in 5"})
		x.wantReady("3 leads", 3)
		for x.e.Look().Leader == 3 {
			same(t, "P21.3: Step", x.e.Step(4), api.ErrBusy)
			x.step(3)
		}
		x.wantReady("nobody leads", 3, 4, 5, 6, 7)
		x.step(7, 4, 5)
		x.want("P21.3: done", map[int]string{4: "0 0 ", 5: "0 0 ", 7: "8 0 "})
		same(t, "First", x.e.Look().First, 2)
		x.call(app("d"))
		x.step(8)
		x.wantReady("8 leads: the gate is shut again", 3, 8)
		x.batch(8)
		x.step(6)
		x.want("P21.3: done", map[int]string{6: "0 0 ", 8: "0 4 "})
		same(t, "First", x.e.Look().First, 4)
	}
}

// Behind the gate it is as at the start: closing, then failed.
func TestGateOfAClosingOrFailedLog(t *testing.T) {
	at := func(ahead ...api.Call) *twin {
		x := lasting(t, params(), 2)
		x.call(app("c"))
		x.step(3)
		x.call(truncate(2), truncate(0), truncate(9))
		x.call(ahead...)
		x.want("at the gate", map[int]string{4: "in 5", 5: "in 5", 6: "in 5"})
		return x
	}
	x := at()
	x.arm(api.Fault{At: 2, Kind: api.FaultIO})
	x.step(3, 3, 3, 4, 5, 6)
	x.want("P21.3: failed", map[int]string{4: "40 0 ", 5: "40 0 ", 6: "40 0 "})
	x = at(closes())
	x.step(3, 3, 3, 4, 5, 6)
	x.want("P21.3: closing", map[int]string{4: "41 0 ", 5: "41 0 ", 6: "41 0 "})
	x = at(closes())
	x.arm(api.Fault{At: 2, Kind: api.FaultIO})
	x.step(3, 3, 3, 4, 5, 6)
	x.want("P21.3: ErrClosed ahead of ErrFailed", map[int]string{4: "41 0 ", 5: "41 0 ", 6: "41 0 "})
	same(t, "Look", fmt.Sprint(x.e.Look().First, x.e.Look().Failed, x.e.Look().Closed), "1 true false")
}

// A Truncate holds nobody up, nor does it lead.
func TestTruncateWhileOthersWait(t *testing.T) {
	x := lasting(t, params(), 2)
	x.call(app("c"), next(3), syncs())
	x.call(truncate(3))
	x.want("P21.3: nobody leads", map[int]string{6: "0 0 ", 3: "in 3", 4: "in 4", 5: "in 3"})
	same(t, "Look", fmt.Sprint(x.e.Look().First, x.e.Look().Leader, x.e.Look().Held), "3 0 1")
	x.batch(4)
	x.step(3, 4, 5)
	x.want("they go on", map[int]string{3: "0 3 ", 4: "0 3 c", 5: "0 0 "})
}
