package store_test

import (
	"fmt"
	"maps"
	"math/rand"
	"slices"
	"testing"

	"flume/api"
	"flume/crash"
	"flume/disk"
	"flume/store"
)

// witness knows what the crash theorem says of a log.
type witness struct {
	there  bool             // the log was opened once
	firsts []int64          // what First may be
	lasts  int64            // the Durable that was told
	most   int64            // the greatest Next that a record was put for
	given  map[int64][]byte // what Append was given for an LSN the last time
}

func newWitness(base int64) *witness {
	return &witness{firsts: []int64{base}, lasts: base, most: base, given: map[int64][]byte{}}
}

func (w *witness) copy() *witness {
	c := *w
	c.firsts = slices.Clone(w.firsts)
	c.given = maps.Clone(w.given)
	return &c
}

// call does a call, and keeps what may come of it.
func (w *witness) call(s *store.Store, c call) {
	was := s.Look()
	_, err := c.on(s)
	now := s.Look()
	done := err == api.OK || err == api.ErrFailed && !was.Failed
	switch {
	case c.kind == "Append" && done:
		for i, data := range c.datas {
			w.given[was.Next+int64(i)] = data
		}
		w.most = max(w.most, was.Next+int64(len(c.datas)))
	case c.kind == "TruncateFront" && done && c.lsn > was.First:
		w.firsts = []int64{c.lsn}
		if err != api.OK {
			w.firsts = append(w.firsts, was.First)
		}
	}
	w.lasts = max(w.lasts, now.Durable)
}

// opened holds a log that was opened against the theorem; from there on it is what it is then.
func (w *witness) opened(t *testing.T, what string, s *store.Store, found api.Found) {
	t.Helper()
	l := s.Look()
	same(t, "the crash theorem: Fresh: "+what, found.Fresh && w.there, false)
	if !slices.Contains(w.firsts, l.First) {
		t.Fatalf("the crash theorem: %s: First is %d, not of %v", what, l.First, w.firsts)
	}
	if l.Next < w.lasts || l.Next > w.most || l.Durable != l.Next || l.First > l.Next {
		t.Fatalf("the crash theorem: %s: %+v; what lasts is %d, the most %d", what, l, w.lasts, w.most)
	}
	for lsn := l.First; lsn < l.Next; lsn++ {
		rec, err := s.Read(lsn)
		if rec.LSN != lsn || string(rec.Data) != string(w.given[lsn]) || err != api.OK {
			t.Fatalf("the crash theorem: %s: Read(%d): %d, %x, %d, want %x", what, lsn, rec.LSN, rec.Data, err, w.given[lsn])
		}
	}
	w.there, w.firsts, w.lasts, w.most = true, []int64{l.First}, l.Durable, l.Next
}

// opens opens the log with no fault: right behind a Crash that must be OK.
func (w *witness) opens(t *testing.T, what string, d *disk.Disk, ps api.Params) *store.Store {
	t.Helper()
	s, found, err := store.Open(d, ps)
	same(t, "the crash theorem: Open: "+what, err, api.OK)
	w.opened(t, what, s, found)
	return s
}

// plays opens a log and does calls, as far as faults let it.
func (w *witness) plays(t *testing.T, what string, d *disk.Disk, ps api.Params, calls []call) {
	t.Helper()
	s, found, err := store.Open(d, ps)
	same(t, "the crash theorem: never corrupt: "+what, err == api.ErrCorrupt, false)
	if err != api.OK {
		return
	}
	w.opened(t, what, s, found)
	for _, c := range calls {
		w.call(s, c)
	}
}

// eachFate does something with a copy of d behind each of its fates without Junk.
func eachFate(t *testing.T, d *disk.Disk, do func(i int64, c *disk.Disk)) {
	t.Helper()
	someFates(t, d, 1<<40, do)
}

// someFates does it with some of them, the first and the last among them.
func someFates(t *testing.T, d *disk.Disk, some int64, do func(i int64, c *disk.Disk)) {
	t.Helper()
	ways, err := crash.Ways(d)
	same(t, "Ways", err, api.OK)
	step := 1 + ways/some
	for i := int64(0); ; i = min(i+step, ways-1) {
		c, err := crash.After(d, i)
		same(t, "After", err, api.OK)
		do(i, c)
		if i == ways-1 {
			return
		}
	}
}

// script is calls to a log, and what it is opened with.
type script struct {
	ps    api.Params
	calls []call
}

func scripts() []script {
	return []script{
		{params(64, 1), []call{appends(texts("a", "b")...), syncs, appends(texts("c")...), truncates(2), appends(texts("d")...), truncates(4), syncs, closes}},
		{params(100, 5), []call{appends(texts("abc")...), appends(texts("de", "", "f", "ghijk")...), syncs, truncates(7), appends(texts("l", "m")...), truncates(9), closes}},
		{params(70, 3), []call{appends(texts("a")...), appends(texts("b")...), appends(texts("c", "d", "e", "f")...), truncates(7), syncs, truncates(9), appends(texts("g")...), syncs}},
		{params(64, 9), []call{appends(texts("a")...), syncs, truncates(10), appends(texts("bcd", "e")...), closes}},
	}
}

// operations tells how many operations a script makes.
func (x script) operations(t *testing.T) int64 {
	d := disk.New(1 << 20)
	newWitness(x.ps.Base).plays(t, "counted", d, x.ps, x.calls)
	return d.Count().All
}

// ranInto plays a script on a new disk on which a fault is armed.
func (x script) ranInto(t *testing.T, f api.Fault) (*disk.Disk, *witness) {
	d := disk.New(1 << 20)
	w := newWitness(x.ps.Base)
	arm(t, d, f)
	w.plays(t, fmt.Sprint("fault ", f), d, x.ps, x.calls)
	return d, w
}

// At each operation of a log the power is lost; with each fate it opens again, as the theorem says, and goes on.
func TestCrashesAtEachMoment(t *testing.T) {
	for n, x := range scripts() {
		for at := int64(1); at <= x.operations(t)+1; at++ {
			for _, part := range []int{0, 9, 1000} {
				d, w := x.ranInto(t, api.Fault{At: at, Kind: api.FaultPower, Part: part})
				eachFate(t, d, func(i int64, c *disk.Disk) {
					what := fmt.Sprintf("script %d, power lost at %d, %d bytes, fate %d", n, at, part, i)
					v := w.copy()
					s := v.opens(t, what, c, x.ps)
					allLasts(t, "the crash theorem: "+what, c)
					v.call(s, appends(texts("on", "and on")...))
					v.call(s, syncs)
					same(t, "it goes on: "+what, s.Look().Failed, false)
					v.opens(t, what+", opened again", c, x.ps)
				})
			}
		}
	}
}

// An operation fails, and the power stays, or goes later: the log is opened on what was left, called, and then comes the loss.
func TestCrashesBehindFaults(t *testing.T) {
	more := []call{appends(texts("more", "!")...), truncates(6), syncs, appends(texts("end")...)}
	for n, x := range scripts() {
		for at := int64(1); at <= x.operations(t); at++ {
			for _, kind := range []int{api.FaultIO, api.FaultFull, api.FaultPanic} {
				d, w := x.ranInto(t, api.Fault{At: at, Kind: kind, Part: 20})
				arm(t, d)
				what := fmt.Sprintf("script %d, fault %d at %d", n, kind, at)
				eachFate(t, d, func(i int64, c *disk.Disk) { w.copy().opens(t, fmt.Sprint(what, ", fate ", i), c, x.ps) })
				s := w.opens(t, what+", no crash", d, x.ps)
				allLasts(t, "the crash theorem: "+what, d)
				for _, c := range more {
					w.call(s, c)
				}
				eachFate(t, d, func(i int64, c *disk.Disk) { w.copy().opens(t, fmt.Sprint(what, ", more, fate ", i), c, x.ps) })
			}
		}
	}
}

// The power is lost, and lost again at each operation of the opening; or that fails, and is tried again.
func TestCrashesWhileOpening(t *testing.T) {
	r := rand.New(rand.NewSource(142))
	for n, x := range scripts() {
		for at := int64(1); at <= x.operations(t); at++ {
			d, w := x.ranInto(t, api.Fault{At: at, Kind: api.FaultPower, Part: 20})
			ways, _ := crash.Ways(d)
			for _, i := range []int64{0, r.Int63n(ways), ways - 1} {
				c, _ := crash.After(d, i)
				w.reopens(t, fmt.Sprintf("script %d, power lost at %d, fate %d", n, at, i), c, x.ps)
			}
			// Here nothing is lost at first: what pends and what tails there are is found by the opening.
			for _, kind := range []int{api.FaultIO, api.FaultPanic} {
				d, w := x.ranInto(t, api.Fault{At: at, Kind: kind, Part: 20})
				arm(t, d)
				w.reopens(t, fmt.Sprintf("script %d, fault %d at %d", n, kind, at), d, x.ps)
			}
		}
	}
}

// reopens opens copies of d with a fault at each operation of that; behind it the log opens, with some fates and with none.
func (w *witness) reopens(t *testing.T, what string, d *disk.Disk, ps api.Params) {
	t.Helper()
	for at := int64(1); ; at++ {
		for kind := api.FaultIO; kind <= api.FaultPanic; kind++ {
			c := d.Copy()
			was := c.Count().All
			arm(t, c, api.Fault{At: at, Kind: kind, Part: 10})
			what := fmt.Sprintf("%s, opening with fault %d at %d", what, kind, at)
			v := w.copy()
			v.plays(t, what, c, ps, nil)
			if c.Count().All < was+at {
				return
			}
			someFates(t, c, 12, func(i int64, e *disk.Disk) { v.copy().opens(t, fmt.Sprint(what, ", fate ", i), e, ps) })
			if c.Up() {
				arm(t, c)
				v.opens(t, what+", no crash", c, ps)
				someFates(t, c, 12, func(i int64, e *disk.Disk) { v.copy().opens(t, fmt.Sprint(what, ", opened, fate ", i), e, ps) })
			}
		}
	}
}

// Junk at which scan stops does no harm either.
func TestCrashesWithJunk(t *testing.T) {
	for n, x := range scripts() {
		for at := int64(1); at <= x.operations(t)+1; at++ {
			d, w := x.ranInto(t, api.Fault{At: at, Kind: api.FaultPower, Part: 30})
			for dir := range d.Pending() + 1 {
				for _, junk := range []string{"\xff", "\x00\x00", "junk that is longer than the front of a frame", "\x00\x00\x00\x00\x00\x00\x00\x00\x00\x00\x00\x00\x00\x00\x00\x00\x00"} {
					for keep := range 40 {
						c := d.Copy()
						f := api.Fate{Dir: dir}
						for _, tail := range c.Tails(dir) {
							f.Keeps = append(f.Keeps, api.Keep{N: min(keep, max(tail.N-1, 0)), Junk: []byte(junk)})
						}
						c.Crash(f)
						what := fmt.Sprintf("script %d, power lost at %d, fate %+v", n, at, f)
						s := w.copy().opens(t, what, c, x.ps)
						allLasts(t, what, c)
						same(t, what+": one catalog", len(s.Catalog().Segs)+1, len(c.Files()))
					}
				}
			}
		}
	}
}

// Logs that are called, fail, are opened, lose the power in an order that is drawn.
func TestDrawnCrashes(t *testing.T) {
	r := rand.New(rand.NewSource(143))
	for round := range 1500 {
		d := disk.New(1 << 20)
		ps := params(64+r.Intn(100), 1+r.Int63n(5))
		w := newWitness(ps.Base)
		for life := range 5 {
			what := fmt.Sprintf("round %d, life %d", round, life)
			if r.Intn(2) == 0 {
				arm(t, d, drawnFault(r))
			}
			s, found, err := store.Open(d, ps)
			same(t, "the crash theorem: never corrupt: "+what, err == api.ErrCorrupt, false)
			if err == api.OK {
				w.opened(t, what, s, found)
				for range r.Intn(10) {
					if r.Intn(10) == 0 {
						arm(t, d, drawnFault(r))
					}
					w.call(s, drawnCall(r, s.Look()))
				}
			}
			if !d.Up() || r.Intn(3) > 0 {
				d.Crash(drawnFate(r, d))
			}
		}
		d.Crash(drawnFate(r, d))
		w.opens(t, fmt.Sprint("round ", round, ", at the end"), d, ps)
	}
}

// A sealed segment has at most SegMax bytes, or just one record.
func TestSealedSizes(t *testing.T) {
	r := rand.New(rand.NewSource(144))
	for range 200 {
		segMax := 64 + r.Intn(300)
		d := disk.New(1 << 20)
		s, _ := opened(t, d, params(segMax, 1))
		for range 15 {
			s.Append(drawn(r, 1+r.Intn(6))...)
		}
		segs := s.Catalog().Segs
		for _, g := range segs[:len(segs)-1] {
			if g.Size > segMax && g.End != g.Base+1 || g.End == g.Base {
				t.Fatalf("what follows: SegMax %d, a sealed segment %+v", segMax, g)
			}
		}
	}
}
