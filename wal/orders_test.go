package wal_test

import (
	"slices"
	"testing"

	"flume/api"
	"flume/disk"
)

// beginning is how a log stands ahead of the calls that are played.
type beginning struct {
	what  string
	ps    api.EngineParams
	d     *disk.Disk // with a log
	ahead []op
}

// begun is a twin that stands so.
func (b beginning) begun(t *testing.T) *twin {
	t.Helper()
	x := over(t, b.d.Copy(), b.ps)
	for _, o := range b.ahead {
		x.do(o)
	}
	return x
}

// beginnings are logs with the record 1, of which some have little room, some roll, some linger.
func beginnings(t *testing.T) []beginning {
	d := lasting(t, params(), 1).d
	lingers := ops(async("x"), async("y"), syncs())
	return []beginning{
		{"wide", changed(func(p *api.EngineParams) { p.QueueCap = 8 }), d, nil},
		{"narrow", changed(func(p *api.EngineParams) { p.QueueCap, p.Pace.Most = 1, 1 }), d, nil},
		{"rolling", changed(func(p *api.EngineParams) { p.Store.SegMax, p.QueueCap, p.QueueBytes, p.Pace.Bytes = 64, 8, 40, 20 }), d, nil},
		{"lingering", changed(func(p *api.EngineParams) { p.QueueCap, p.Pace.Linger, p.Pace.Alpha = 8, 0.5, 1 }), d, lingers},
		{"narrow, rolling and lingering", changed(func(p *api.EngineParams) { p.Pace.Linger, p.Pace.Alpha, p.Store.SegMax, p.QueueBytes = 0.1, 1, 64, 40 }), d, lingers},
	}
}

// palette is a call of each kind, with LSNs that are there and that are not.
func palette() []op {
	return ops(app("a"), async("b"), async("ccccc"), async(long(30)), syncs(), read(1), read(2), read(3), nextOf(2), nextOf(3), next(0), next(1),
		stand(0, 3), truncate(2), truncate(3), truncate(9), closes(), all(0), all(2))
}

// rows hands f each row of so many of these calls.
func rows(many int, palette []op, f func(row []op)) {
	row := make([]op, many)
	var walk func(i int)
	walk = func(i int) {
		if i == many {
			f(row)
			return
		}
		for _, o := range palette {
			row[i] = o
			walk(i + 1)
		}
	}
	walk(0)
}

func TestAllRowsOfThree(t *testing.T) {
	t.Parallel()
	for _, b := range beginnings(t) {
		rows(3, palette(), func(row []op) {
			x := b.begun(t)
			for _, o := range row {
				x.do(o)
			}
		})
	}
}

func TestAllRowsOfFive(t *testing.T) {
	t.Parallel()
	for _, b := range beginnings(t) {
		rows(5, ops(async("b"), app("cc"), next(0), syncs(), truncate(3), closes()), func(row []op) {
			x := b.begun(t)
			for _, o := range row {
				x.do(o)
			}
			x.filesAlike()
		})
	}
}

// A fault at each of the first operations.
func TestAllRowsWithFaults(t *testing.T) {
	t.Parallel()
	palette := ops(app("a"), async("b"), next(0), syncs(), truncate(2), closes())
	for _, b := range beginnings(t)[1:4] {
		rows(3, palette, func(row []op) {
			for at := range 12 {
				for _, kind := range []int{api.FaultIO, api.FaultFull + at%3} {
					x := b.begun(t)
					x.arm(api.Fault{At: int64(at + 1), Kind: kind, Part: 9})
					for _, o := range slices.Concat(row, ops(read(1), nextOf(2), nextOf(9), app("z"), all(0))) {
						x.do(o)
					}
					x.filesAlike()
				}
			}
		})
	}
}
