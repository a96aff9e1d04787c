package engine_test

import (
	"fmt"
	"slices"
	"testing"

	"flume/api"
	"flume/crash"
	"flume/disk"
	"flume/store"
)

// given is the data with which a call was given an LSN the last time.
type given map[int64]string

// keeps has what the calls of a twin were given come in.
func (g given) keeps(x *twin) {
	for _, c := range x.p.calls {
		if c.record != 0 {
			g[c.record] = c.data
		}
	}
}

// opensWell opens the log of a twin on what a loss of power left of its disk, and holds that what was acknowledged is there.
func (x *twin) opensWell(what string, d *disk.Disk, g given) {
	x.t.Helper()
	s, _, err := store.Open(d, x.p.p.Store)
	if err != api.OK {
		x.wrong(what+": Open", err, api.OK)
	}
	was, now := x.e.Look(), s.Look()
	if now.Next < max(x.owed, was.Durable) || now.Next > was.Reserved || now.Durable != now.Next {
		x.wrong(what, now, fmt.Sprintf("from %d and %d to %d", x.owed, was.Durable, was.Reserved))
	}
	if now.First != was.First && !x.wasCutting(now.First) {
		x.wrong(what+": First", now.First, was.First)
	}
	for lsn := now.First; lsn < now.Next; lsn++ {
		rec, err := s.Read(lsn)
		if data, ok := g[lsn]; rec.LSN != lsn || string(rec.Data) != data || err != api.OK || !ok {
			x.wrong(fmt.Sprint(what, ": Read of ", lsn), fmt.Sprintf("%d %s %d", rec.LSN, rec.Data, err), data)
		}
	}
}

// wasCutting is whether a Truncate to that LSN failed.
func (x *twin) wasCutting(lsn int64) bool {
	return slices.ContainsFunc(x.p.calls, func(c *plainCall) bool {
		return c.kind == api.CallTruncate && c.lsn == lsn && c.result.Err == api.ErrFailed
	})
}

// crashes opens the log on some of the fates of its disk, the first and the last among them.
func (x *twin) crashes(some int64) {
	x.t.Helper()
	g := given{1: "one"}
	g.keeps(x)
	ways, err := crash.Ways(x.d)
	same(x.t, "Ways", err, api.OK)
	step := 1 + ways/some
	for i := int64(0); ; i = min(i+step, ways-1) {
		d, err := crash.After(x.d, i)
		same(x.t, "After", err, api.OK)
		x.opensWell(fmt.Sprint("what was acknowledged is there: fate ", i), d, g)
		if i == ways-1 {
			return
		}
	}
}

// The power is lost behind any step of some calls, in whatever order they go.
func TestCrashesBehindAnyStep(t *testing.T) {
	t.Parallel()
	for _, b := range beginnings(t)[:3] {
		sets(2, calls(async("bc"), syncs(), truncate(2), truncate(3), closes()), func(cs []api.Call) {
			b.states(t, append(slices.Clip(cs), app("a")), func(x *twin) { x.crashes(6) })
		})
	}
}

// The power is lost within any operation, or an operation fails, and the power is lost behind any step from there on.
func TestCrashesAndFaults(t *testing.T) {
	t.Parallel()
	b := beginnings(t)[2]
	for _, cs := range [][]api.Call{calls(app("a"), async("b"), syncs()), calls(app("a"), truncate(2), async("b")), calls(app("a"), app("b"), closes())} {
		for at := int64(1); at <= 12; at++ {
			for i, kind := range []int{api.FaultPower, api.FaultIO, api.FaultFull, api.FaultPanic} {
				b.faults = []api.Fault{{At: at, Kind: kind, Part: []int{20, 0, 1000, 16}[(int(at)+i)%4]}}
				b.states(t, cs, func(x *twin) {
					if x.e.Look().Failed {
						x.crashes(6)
					}
				})
			}
		}
	}
}

// What an engine that failed left behind goes on in a new one, on the disk as it is.
func TestOpenedAgainWithoutACrash(t *testing.T) {
	t.Parallel()
	b := beginnings(t)[2]
	cs := calls(app("a"), app("b"), truncate(2))
	for at := int64(1); at <= 12; at++ {
		for _, kind := range []int{api.FaultIO, api.FaultFull, api.FaultPanic} {
			b.faults = []api.Fault{{At: at, Kind: kind, Part: 20}}
			b.states(t, cs, func(x *twin) {
				if x.e.Look().Failed {
					d := x.d.Copy()
					d.Arm()
					g := given{1: "one"}
					g.keeps(x)
					x.opensWell("opened again", d, g)
					y := over(t, d, b.ps)
					next := y.e.Look().Reserved
					same(t, "it goes on", []string{y.alone(app("on")), y.alone(read(next)), y.alone(closes())}, fmt.Sprintf("[0 %d  0 %d on 0 0 ]", next, next))
				}
			})
		}
	}
}
