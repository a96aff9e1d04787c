package wal_test

import (
	"fmt"
	"testing"

	"flume/api"
	"flume/crash"
	"flume/disk"
	"flume/wal"
)

// opensWell opens the log of a twin on what a loss of power left of its disk, and holds that what was acknowledged is there.
func (x *twin) opensWell(what string, d *disk.Disk) {
	x.t.Helper()
	l, _, err := wal.Open(d, x.p.p)
	if err != api.OK {
		x.wrong(what+": Open", err, api.OK)
	}
	was, now := x.l.Look(), l.Look()
	if now.Reserved < max(x.owed, was.Durable) || now.Reserved > was.Reserved || now.Durable != now.Reserved {
		x.wrong(what, now, fmt.Sprintf("from %d and %d to %d", x.owed, was.Durable, was.Reserved))
	}
	if x.asked[now.First] == 0 && now.First != was.First {
		x.wrong(what+": First", now.First, was.First)
	}
	lsn := now.First
	for rec := range l.All(0) {
		if data, ok := x.given[lsn]; rec.LSN != lsn || string(rec.Data) != data || !ok {
			x.wrong(fmt.Sprint(what, ": the record ", lsn), fmt.Sprintf("%q", toldRecords(rec)), fmt.Sprintf("%q", data))
		}
		lsn++
	}
	if lsn != now.Reserved {
		x.wrong(what+": all are there", lsn, now.Reserved)
	}
}

// crashes opens the log on some of the fates of its disk, the first and the last among them.
func (x *twin) crashes(some int64) {
	x.t.Helper()
	ways, err := crash.Ways(x.d)
	same(x.t, "Ways", err, api.OK)
	step := 1 + ways/some
	for i := int64(0); ; i = min(i+step, ways-1) {
		d, err := crash.After(x.d, i)
		same(x.t, "After", err, api.OK)
		x.opensWell(fmt.Sprint("what follows: it is there: fate ", i), d)
		if i == ways-1 {
			return
		}
	}
}

// crashRows has f look at logs behind each call of each row.
func (b beginning) crashRows(t *testing.T, many int, palette []op, fs []api.Fault, f func(x *twin)) {
	rows(many, palette, func(row []op) {
		x := b.begun(t)
		x.given[1] = "r1"
		x.arm(fs...)
		for _, o := range row {
			x.do(o)
			f(x)
		}
	})
}

func crashPalette() []op {
	return ops(app("a"), async("bc"), syncs(), next(0), truncate(2), truncate(3), closes())
}

// The power is lost between any two calls.
func TestCrashesBetweenCalls(t *testing.T) {
	t.Parallel()
	for _, b := range beginnings(t) {
		b.crashRows(t, 3, crashPalette(), nil, func(x *twin) { x.crashes(9) })
	}
}

// The power is lost within any operation, or an operation fails, and the power is lost behind any call from there on.
func TestCrashesWithinCalls(t *testing.T) {
	t.Parallel()
	b := beginnings(t)[2]
	for at := int64(1); at <= 16; at++ {
		for i, kind := range []int{api.FaultPower, api.FaultIO, api.FaultFull, api.FaultPanic} {
			fs := []api.Fault{{At: at, Kind: kind, Part: []int{20, 0, 1000, 16}[(int(at)+i)%4]}}
			b.crashRows(t, 3, crashPalette(), fs, func(x *twin) {
				if x.l.Look().Failed {
					x.crashes(4)
				}
			})
		}
	}
}

// Each fate behind an Append, and behind a Sync, with what else was appended.
func TestAllFates(t *testing.T) {
	for _, segMax := range []int{64, 80, 4096} {
		x := opened(t, changed(func(p *api.EngineParams) { p.Store.SegMax, p.QueueCap = segMax, 3 }))
		for i := range 12 {
			x.do([]op{async("a"), async("bb"), app(fmt.Sprint("ccc", i)), async("d"), syncs(), truncate(int64(i))}[i%6])
			x.crashes(1 << 20)
		}
	}
}

// A log that is opened again behind each loss of power, over and over.
func TestCrashOverAndOver(t *testing.T) {
	d := disk.New(1 << 20)
	kept := int64(1)
	for round := range 40 {
		l, found, err := wal.Open(d, changed(func(p *api.EngineParams) { p.Store.SegMax, p.QueueCap = 128, 5 }))
		same(t, fmt.Sprint("Open of round ", round), []any{err, found.Fresh, l.Look().First}, []any{api.OK, round == 0, 1})
		c := l.From(1)
		for lsn := int64(1); lsn < kept; lsn++ {
			rec, err := c.Next()
			same(t, "what was acknowledged", []any{rec.LSN, err}, []any{lsn, api.OK})
		}
		for range 3 {
			l.AppendAsync([]byte("behind"))
		}
		lsn, err := l.Append([]byte("lasts"))
		same(t, "Append", err, api.OK)
		kept = lsn + 1
		l.AppendAsync([]byte("may be lost"))
		d.Crash(api.Fate{Dir: round % 3, Keeps: []api.Keep{{N: round}, {N: round % 7}, {N: 3 * round}}})
	}
}
