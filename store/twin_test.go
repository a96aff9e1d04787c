package store_test

import (
	"fmt"
	"math"
	"math/rand"
	"slices"
	"testing"

	"flume/api"
	"flume/disk"
	"flume/store"
)

// twin is a store and a plain one, each on a disk of its own, to which the same is done.
type twin struct {
	s *store.Store
	d *disk.Disk
	p *plain
}

// openTwin opens a log on d, and on a copy of it; nothing, if it is not to be opened.
func openTwin(t *testing.T, d *disk.Disk, ps api.Params) (*twin, api.Errno) {
	t.Helper()
	c := d.Copy()
	s, found, err := store.Open(d, ps)
	p, wantFound, wantErr := plainOpen(c, ps)
	same(t, "P14.1: Open", fmt.Sprint(found, err), fmt.Sprint(wantFound, wantErr))
	same(t, "P14.1: the disk", tell(d), tell(c))
	if err != api.OK {
		same(t, "P14.1: no store", s == nil, true)
		return nil, err
	}
	x := &twin{s, d, p}
	x.alike(t, "Open")
	return x, api.OK
}

func (x *twin) arm(t *testing.T, fs ...api.Fault) {
	t.Helper()
	arm(t, x.d, fs...)
	arm(t, x.p.d, fs...)
}

// alike holds all that the two tell against each other.
func (x *twin) alike(t *testing.T, what string) {
	t.Helper()
	same(t, what+": the disk", tell(x.d), tell(x.p.d))
	same(t, "P14.7: "+what+": Look", x.s.Look(), x.p.look())
	same(t, "P14.7: "+what+": Catalog", x.s.Catalog(), x.p.catalog())
	l := x.p.look()
	lsns := []int64{math.MinInt64, -1, 0, math.MaxInt64}
	for i := int64(-2); i < min(l.Next-l.First, 200)+2; i++ {
		lsns = append(lsns, l.First+i)
	}
	for _, lsn := range lsns {
		rec, err := x.s.Read(lsn)
		want, wantErr := x.p.read(lsn)
		same(t, fmt.Sprintf("P14.4: %s: Read(%d)", what, lsn), fmt.Sprintf("%d %x %d", rec.LSN, rec.Data, err), fmt.Sprintf("%d %x %d", want.LSN, want.Data, wantErr))
	}
}

// call is a call of a store.
type call struct {
	kind  string
	datas [][]byte
	lsn   int64
}

func appends(datas ...[]byte) call { return call{kind: "Append", datas: datas} }

func truncates(lsn int64) call { return call{kind: "TruncateFront", lsn: lsn} }

var (
	syncs  = call{kind: "Sync"}
	closes = call{kind: "Close"}
)

func (c call) String() string {
	var sizes []int
	for _, data := range c.datas {
		sizes = append(sizes, len(data))
	}
	return fmt.Sprintf("%s, sizes %v, lsn %d", c.kind, sizes, c.lsn)
}

// on does the call.
func (c call) on(s *store.Store) (int64, api.Errno) {
	switch c.kind {
	case "Append":
		return s.Append(c.datas...)
	case "TruncateFront":
		return 0, s.TruncateFront(c.lsn)
	case "Close":
		return 0, s.Close()
	}
	return 0, s.Sync()
}

func (c call) onPlain(p *plain) (int64, api.Errno) {
	switch c.kind {
	case "Append":
		return p.append(c.datas)
	case "TruncateFront":
		return 0, p.truncate(c.lsn)
	case "Close":
		return 0, p.close()
	}
	return 0, p.sync()
}

// do does calls to both; it tells the last one's error.
func (x *twin) do(t *testing.T, calls ...call) (err api.Errno) {
	t.Helper()
	for _, c := range calls {
		var lsn int64
		lsn, err = c.on(x.s)
		wantLSN, wantErr := c.onPlain(x.p)
		same(t, c.String(), fmt.Sprint(lsn, err), fmt.Sprint(wantLSN, wantErr))
		x.alike(t, c.String())
	}
	return err
}

// drawn gives so many records of a few bytes, now and then of many.
func drawn(r *rand.Rand, n int) [][]byte {
	var datas [][]byte
	for range n {
		size := r.Intn(24)
		if r.Intn(40) == 0 {
			size = r.Intn(4098)
		}
		b := make([]byte, size)
		r.Read(b)
		datas = append(datas, b)
	}
	return datas
}

func drawnFault(r *rand.Rand) api.Fault {
	return api.Fault{At: int64(1 + r.Intn(15)), Kind: 1 + r.Intn(4), Part: r.Intn(60)}
}

// drawnCall is a call of a store that stands so.
func drawnCall(r *rand.Rand, l api.StoreLook) call {
	switch n := r.Intn(20); {
	case n < 10:
		return appends(drawn(r, r.Intn(5))...)
	case n < 15:
		return syncs
	case n < 19:
		return truncates(l.First - 2 + r.Int63n(l.Next-l.First+5))
	}
	return closes
}

// drawnFate is one of what a Crash may leave of the disk, at times with junk.
func drawnFate(r *rand.Rand, d *disk.Disk) api.Fate {
	f := api.Fate{Dir: r.Intn(d.Pending() + 2)}
	for _, tail := range d.Tails(f.Dir) {
		k := api.Keep{N: r.Intn(tail.N + 1)}
		if r.Intn(2) == 0 {
			k.N = r.Intn(2) * tail.N
		}
		if r.Intn(4) == 0 {
			k.Junk = slices.Repeat([]byte{0xff}, r.Intn(40))
		}
		f.Keeps = append(f.Keeps, k)
	}
	return f
}

// A log that is called, fails, loses the power and is opened again as drawn, all along like the plain one.
func TestWalks(t *testing.T) {
	r := rand.New(rand.NewSource(141))
	for range 400 {
		d := disk.New(1 << 20)
		if r.Intn(8) == 0 {
			d = disk.New(r.Intn(1000))
		}
		ps := params(64+r.Intn(150), 1+r.Int63n(20))
		for range 6 {
			if r.Intn(3) == 0 {
				arm(t, d, drawnFault(r))
			}
			x, err := openTwin(t, d, ps)
			if err == api.OK {
				for range r.Intn(15) {
					if r.Intn(12) == 0 {
						x.arm(t, drawnFault(r), api.Fault{At: 40, Kind: api.FaultIO})
					}
					x.do(t, drawnCall(r, x.p.look()))
				}
			}
			if !d.Up() || r.Intn(3) > 0 {
				d.Crash(drawnFate(r, d))
			}
		}
	}
}
