package wal_test

import (
	"fmt"
	"math"
	"testing"

	"flume/api"
	"flume/catalog"
	"flume/disk"
	"flume/segment"
	"flume/wal"
)

func TestExamples(t *testing.T) {
	for most, durable := range map[int]int64{1: 2, 2: 3, 8: 3, 256: 3} {
		x := opened(t, changed(func(p *api.EngineParams) { p.Pace.Most = most }))
		x.wants("P22.2", async("a"), "0 1", async("b"), "0 2", async("c"), "0 3")
		same(t, fmt.Sprint("P22.5: Durable with Most ", most), x.l.Look().Durable, durable)
		x.wants("P22.3", next(0), "0 1 a", next(0), "0 2 b", next(0), "0 3 c", next(0), "42 0 ", at(0), "0 4")
		x.wants("P22.2", truncate(3), "0 ", nextOf(1), "43 0 ", closes(), "0 ", app("d"), "41 0")
	}
}

// spoilt are params of which one may not be.
func spoilt() []api.EngineParams {
	var l []api.EngineParams
	add := func(how func(p *api.EngineParams)) { l = append(l, changed(how)) }
	for _, n := range []int{0, -1, 1025, math.MinInt, math.MaxInt} {
		add(func(p *api.EngineParams) { p.QueueCap = n })
	}
	for _, n := range []int{0, -1, 1<<24 + 1, math.MinInt, math.MaxInt} {
		add(func(p *api.EngineParams) { p.QueueBytes = n })
	}
	for _, n := range []int{0, -1, 257, math.MinInt, math.MaxInt} {
		add(func(p *api.EngineParams) { p.Pace.Most = n })
	}
	for _, n := range []int{0, -1, 1<<20 + 1, math.MinInt, math.MaxInt} {
		add(func(p *api.EngineParams) { p.Pace.Bytes = n })
	}
	for _, f := range []float64{-5e-324, -1, 1<<20 + 1, math.Inf(1), math.Inf(-1), math.NaN()} {
		add(func(p *api.EngineParams) { p.Pace.Linger = f })
	}
	for _, f := range []float64{0, math.Copysign(0, -1), -1, math.Nextafter(1, 2), math.Inf(1), math.NaN()} {
		add(func(p *api.EngineParams) { p.Pace.Alpha = f })
	}
	for _, n := range []int{0, -1, 63, 1<<20 + 1, math.MinInt, math.MaxInt} {
		add(func(p *api.EngineParams) { p.Store.SegMax = n })
	}
	for _, n := range []int64{0, -1, math.MinInt64} {
		add(func(p *api.EngineParams) { p.Store.Base = n })
	}
	return append(l, api.EngineParams{})
}

func TestOpenRefuses(t *testing.T) {
	for _, p := range append(spoilt(), params()) {
		l, found, err := wal.Open(nil, p)
		same(t, "P22.1: no disk", []any{l == nil, found, err}, []any{true, api.Found{}, api.ErrArg})
	}
	for _, p := range spoilt() {
		d := disk.New(1 << 20)
		l, found, err := wal.Open(d, p)
		same(t, fmt.Sprintf("P22.1: %+v", p), []any{l == nil, found, err}, []any{true, api.Found{}, api.ErrArg})
		same(t, "no operation", d.Count(), api.Counts{})
	}
	l, _, err := wal.Open(&disk.Disk{}, params())
	same(t, "P22.1: a disk that New did not make", []any{l == nil, err}, []any{true, api.ErrDown})
}

func TestOpenAtTheBoundsOfParams(t *testing.T) {
	for _, how := range []func(p *api.EngineParams){
		func(p *api.EngineParams) { p.QueueCap, p.QueueBytes = 1, 17 },
		func(p *api.EngineParams) { p.QueueCap, p.QueueBytes = 1024, 1<<24 },
		func(p *api.EngineParams) { p.Pace = api.PaceParams{Most: 1, Bytes: 1, Linger: 0, Alpha: 5e-324} },
		func(p *api.EngineParams) {
			p.Pace = api.PaceParams{Most: 256, Bytes: 1 << 20, Linger: 1 << 20, Alpha: 1}
		},
		func(p *api.EngineParams) { p.Pace.Linger = math.Copysign(0, -1) },
		func(p *api.EngineParams) { p.Store.SegMax = 64 },
		func(p *api.EngineParams) { p.Store.SegMax = 1 << 20 },
	} {
		x := opened(t, changed(how))
		x.wants("P22.1", app("a"), "0 1", async("b"), "0 2", next(0), "0 1 a", next(0), "0 2 b", closes(), "0 ")
	}
}

func TestOpenWhatIsThere(t *testing.T) {
	d := disk.New(1 << 20)
	l, found, err := wal.Open(d, params())
	same(t, "P22.1: fresh", []any{found, err, l.Look()}, []any{api.Found{Fresh: true}, api.OK, api.EngineLook{First: 1, Durable: 1, Reserved: 1}})
	l.Append([]byte("a"))
	l.AppendAsync([]byte("b"))
	l.TruncateFront(2)
	d.Create("segment-next")
	d.Append("seg-0000000000000001.log", []byte("behind"))
	l, found, err = wal.Open(d, changed(func(p *api.EngineParams) { p.Store.Base = 77 }))
	same(t, "P22.1: a log is there", []any{found, err, l.Look()}, []any{api.Found{Removed: 1, Lost: 6}, api.OK, api.EngineLook{First: 2, Durable: 2, Reserved: 2}})
	lsn, err := l.Append([]byte("B"))
	same(t, "P22.2: it goes on", []any{lsn, err}, []any{2, api.OK})
}

func TestOpenASpoiltLog(t *testing.T) {
	x := lasting(t, changed(func(p *api.EngineParams) { p.Store.SegMax = 64 }), 3)
	for _, f := range x.d.Files() {
		d := x.d.Copy()
		d.Cut(f.Name, 20)
		ahead := d.Count()
		l, found, err := wal.Open(d, params())
		same(t, "P22.1: spoilt: "+f.Name, []any{l == nil, found, err}, []any{true, api.Found{}, api.ErrCorrupt})
		same(t, "no operation", d.Count(), ahead)
	}
}

// A fault of each kind at each operation of an opening.
func TestOpenWithFaults(t *testing.T) {
	there := lasting(t, params(), 2)
	there.d.Append("seg-0000000000000001.log", []byte("more"))
	there.d.Create("catalog-next")
	errs := map[int]api.Errno{api.FaultIO: api.ErrIO, api.FaultFull: api.ErrFull, api.FaultPower: api.ErrDown, api.FaultPanic: api.ErrPanic}
	for _, d := range []*disk.Disk{disk.New(1 << 20), there.d} {
		counted := d.Copy()
		wal.Open(counted, params())
		many := counted.Count().All - d.Count().All
		for at := int64(1); at <= many+1; at++ {
			for kind, want := range errs {
				d := d.Copy()
				d.Arm(api.Fault{At: at, Kind: kind})
				l, found, err := wal.Open(d, params())
				if at > many || kind == api.FaultFull && err == api.OK { // it befalls what takes room alone
					same(t, "P22.1: as without", []any{l == nil, err}, []any{false, api.OK})
					continue
				}
				same(t, fmt.Sprint("P22.1: a fault at ", at, " of kind ", kind), []any{l == nil, found, err}, []any{true, api.Found{}, want})
			}
		}
	}
}

func TestAppend(t *testing.T) {
	x := opened(t, changed(func(p *api.EngineParams) { p.QueueBytes = 1 << 20 }))
	x.wants("P22.2", app(""), "0 1", app(long(4096)), "0 2", app(long(4097)), "3 0", app(long(100000)), "3 0", app("z"), "0 3")
	same(t, "it lasts", x.l.Look(), api.EngineLook{First: 1, Durable: 4, Reserved: 4, Batches: 3})
	x.wants("P22.2", read(1), "0 1 ", read(2), "0 2 "+long(4096), read(3), "0 3 z")
	lsn, err := x.l.Append(nil)
	same(t, "P0.4: nil", toldLSN(lsn, err), "0 4")
	rec, err := x.l.Read(4)
	same(t, "P0.4: nil", toldRecord(rec, err), "0 4 ")
}

func TestAppendAsync(t *testing.T) {
	x := opened(t, changed(func(p *api.EngineParams) { p.QueueCap, p.QueueBytes = 4, 1<<20 }))
	ops := x.d.Count()
	x.wants("P22.2", async(""), "0 1", async(long(4096)), "0 2", async(long(4097)), "3 0", async("z"), "0 3")
	lsn, err := x.l.AppendAsync(nil)
	x.p.append("", false)
	same(t, "P0.4: nil", toldLSN(lsn, err), "0 4")
	same(t, "P22.2: no operation, as long as there is room", x.d.Count(), ops)
	same(t, "P22.5: Look", x.l.Look(), api.EngineLook{First: 1, Durable: 1, Reserved: 5, Held: 4, HeldBytes: 4*16 + 4097})
	x.wants("P22.2", read(1), "42 0 ", syncs(), "0 ", read(1), "0 1 ", read(2), "0 2 "+long(4096), read(3), "0 3 z", read(4), "0 4 ")
	x.wants("P22.2: an Append makes last what is ahead of it", async("a"), "0 5", async("b"), "0 6", app("c"), "0 7", read(5), "0 5 a", read(6), "0 6 b")
}

// A record whose frame is greater than all of the queue's bytes is too long; one that fills it is not.
func TestFramesAndTheQueuesBytes(t *testing.T) {
	for _, n := range []int{0, 1, 50, 4096} {
		x := opened(t, changed(func(p *api.EngineParams) { p.QueueCap, p.QueueBytes = 5, 16+n }))
		x.wants("P22.2: just the queue's bytes", app(long(n)), "0 1", async(long(n)), "0 2")
		x.wants("P22.2: one more", app(long(n+1)), "3 0", async(long(n+1)), "3 0")
		same(t, "nothing has changed", x.l.Look(), api.EngineLook{First: 1, Durable: 2, Reserved: 3, Held: 1, HeldBytes: 16 + n, Batches: 1})
		x.wants("P22.2: it leads till it comes in", async(long(n)), "0 3", async(""), "0 4")
		x.wants("P22.2", syncs(), "0 ", read(3), "0 3 "+long(n), read(4), "0 4 ")
	}
	x := opened(t, changed(func(p *api.EngineParams) { p.QueueBytes = 15 }))
	x.wants("P22.2: no frame is so small", app(""), "3 0", async(""), "3 0", syncs(), "0 ")
}

func TestNearTheGreatestLSN(t *testing.T) {
	base := func(n int64) api.EngineParams {
		return changed(func(p *api.EngineParams) { p.Store.Base = n })
	}
	x := opened(t, base(math.MaxInt64-2))
	x.wants("P22.2", async("a"), "0 9223372036854775805", app("b"), "0 9223372036854775806", app("c"), "44 0", async("c"), "44 0", app(long(5000)), "3 0")
	same(t, "P22.5: Look", x.l.Look(), api.EngineLook{First: math.MaxInt64 - 2, Durable: math.MaxInt64, Reserved: math.MaxInt64, Batches: 1})
	x.wants("P22.3", next(0), "0 9223372036854775805 a", next(0), "0 9223372036854775806 b", next(0), "42 0 ", at(0), "0 9223372036854775807")
	for _, lsn := range []int64{math.MinInt64, 0, math.MaxInt64 - 2} {
		x.wants("P22.4", all(lsn), "0 9223372036854775805 a, 9223372036854775806 b")
	}
	x.wants("P22.4", all(math.MaxInt64-1), "0 9223372036854775806 b", all(math.MaxInt64), "0 ")
	x.wants("P22.2", read(math.MaxInt64), "42 0 ", truncate(math.MaxInt64), "0 ", read(math.MaxInt64-1), "43 0 ", read(math.MaxInt64), "42 0 ", syncs(), "0 ", closes(), "0 ")
	x = opened(t, base(math.MaxInt64))
	x.wants("P22.2: no LSN is left", app("a"), "44 0", async(""), "44 0", nextOf(math.MaxInt64), "42 0 ", nextOf(math.MaxInt64-1), "43 0 ", all(0), "0 ", truncate(math.MaxInt64), "0 ", closes(), "0 ")
}

// An AppendAsync that finds the queue full of records leads till its own comes in: batch by batch.
func TestFullByRecords(t *testing.T) {
	for _, k := range []struct{ most, durable, held int }{{1, 2, 4}, {2, 3, 3}, {3, 4, 2}, {4, 5, 1}, {9, 5, 1}} {
		x := opened(t, changed(func(p *api.EngineParams) { p.QueueCap, p.Pace.Most = 4, k.most }))
		x.wants("P22.2", async("a"), "0 1", async("b"), "0 2", async("c"), "0 3", async("d"), "0 4")
		same(t, "full", fmt.Sprint(x.l.Look().Held, x.l.Look().Durable), "4 1")
		x.wants("P22.2", async("e"), "0 5")
		same(t, fmt.Sprint("P22.2: one batch, with Most ", k.most), x.l.Look(), api.EngineLook{First: 1, Durable: int64(k.durable), Reserved: 6, Held: k.held, HeldBytes: 17 * k.held, Batches: 1})
		x.wants("P22.2: its own record came in, and is not written", read(5), "42 0 ", syncs(), "0 ", all(0), "0 1 a, 2 b, 3 c, 4 d, 5 e")
	}
}

// One that finds the queue full of bytes may have to lead more than one batch.
func TestFullByBytes(t *testing.T) {
	for _, k := range []struct {
		size, durable, held int // of the record that finds no room
	}{{1, 1, 4}, {10, 1, 4}, {11, 2, 3}, {27, 2, 3}, {28, 3, 2}, {57, 3, 2}, {58, 4, 1}, {84, 4, 1}} {
		x := opened(t, changed(func(p *api.EngineParams) { p.QueueCap, p.QueueBytes, p.Pace.Most = 9, 100, 1 }))
		x.wants("P22.2", async("a"), "0 1", async(long(14)), "0 2", async("abcdefghijk"), "0 3") // 17, 30 and 27 bytes
		was := x.l.Look()
		same(t, "P22.5: HeldBytes", was.HeldBytes, 74)
		x.wants("P22.2", async(long(k.size)), "0 4")
		l := x.l.Look()
		same(t, fmt.Sprint("P22.2: one of ", k.size, " bytes"), fmt.Sprint(l.Durable, l.Held, l.Batches), fmt.Sprint(k.durable, k.held, k.durable-1))
	}
}

// What Look tells of the time: it goes on as far as a batch has to wait, and at no other call.
func TestLinger(t *testing.T) {
	x := opened(t, changed(func(p *api.EngineParams) {
		p.QueueCap, p.QueueBytes, p.Pace = 3, 100, api.PaceParams{Most: 8, Bytes: 1000, Linger: 1.5, Alpha: 1}
	}))
	for i, k := range []struct {
		o    op
		want string
		now  float64
	}{
		{app("a"), "0 1", 0},             // one is wanted
		{async("b"), "0 2", 0},           // no batch
		{async("c"), "0 3", 0},           //
		{syncs(), "0 ", 0},               // two, one is wanted; two from here on
		{syncs(), "0 ", 0},               // nothing to sync
		{app("d"), "0 4", 1.5},           // one, two are wanted; one from here on
		{app("e"), "0 5", 1.5},           //
		{async("f"), "0 6", 1.5},         //
		{async("g"), "0 7", 1.5},         //
		{async("h"), "0 8", 1.5},         // three
		{async("i"), "0 9", 1.5},         // no room: a batch of three, three are wanted from here on
		{truncate(5), "0 ", 1.5},         //
		{read(5), "0 5 e", 1.5},          //
		{async(long(80)), "0 10", 3},     // no room for its bytes: a batch of one, one is wanted from here on
		{stand(0, 10), "0 ", 3},          //
		{next(0), "0 10 " + long(80), 3}, //
		{async("k"), "0 11", 3},
		{async("l"), "0 12", 3},
		{closes(), "0 ", 3},
	} {
		x.wants(fmt.Sprint("P22.2: ", i), k.o, k.want)
		same(t, fmt.Sprint("P22.5: Now behind ", i, ", ", k.o), x.l.Look().Now, k.now)
	}
	x = opened(t, changed(func(p *api.EngineParams) { p.Pace = api.PaceParams{Most: 8, Bytes: 1000, Linger: 1.5, Alpha: 1} }))
	x.wants("two", async("a"), "0 1", async("b"), "0 2", syncs(), "0 ", async("c"), "0 3")
	x.wants("P22.2: a Close waits too", closes(), "0 ")
	same(t, "P22.5: Now", x.l.Look(), api.EngineLook{First: 1, Durable: 4, Reserved: 4, Batches: 2, Now: 1.5, Closing: true, Closed: true})
}

// A time that can't go on by just Linger goes on to the next number at which the batch goes.
func TestLingerRounded(t *testing.T) {
	for _, linger := range []float64{5e-324, 1e-300, 0.1, 1.0 / 3, 1 << 20} {
		x := opened(t, changed(func(p *api.EngineParams) {
			p.QueueCap, p.Pace = 8, api.PaceParams{Most: 8, Bytes: 1000, Linger: linger, Alpha: 1}
		}))
		was := 0.0
		for i := range 30 {
			x.wants("two, and then one", async("a"), fmt.Sprint("0 ", 3*i+1), async("b"), fmt.Sprint("0 ", 3*i+2), syncs(), "0 ", app("c"), fmt.Sprint("0 ", 3*i+3))
			now := x.l.Look().Now
			if now-was < linger {
				x.wrong("P22.5: Now", now, fmt.Sprint("at least ", linger, " above ", was))
			}
			was = now
		}
	}
}

func TestSync(t *testing.T) {
	x := opened(t, changed(func(p *api.EngineParams) { p.QueueCap = 8 }))
	ops := x.d.Count()
	x.wants("P22.2: nothing to sync", syncs(), "0 ", syncs(), "0 ")
	same(t, "no operation", x.d.Count(), ops)
	x.wants("P22.2", async("a"), "0 1", async("b"), "0 2", async("c"), "0 3", syncs(), "0 ")
	now := x.d.Count()
	same(t, "one batch, one sync", fmt.Sprint(now.Appends-ops.Appends, now.Syncs-ops.Syncs, now.All-ops.All), "1 1 2")
	x.wants("P22.2: nothing to sync", syncs(), "0 ", app("d"), "0 4", syncs(), "0 ")
	same(t, "an Append synced it", x.d.Count().Syncs-now.Syncs, 1)
	x = opened(t, changed(func(p *api.EngineParams) { p.QueueCap, p.Pace.Most = 8, 2 }))
	x.wants("P22.2", async("a"), "0 1", async("b"), "0 2", async("c"), "0 3", async("d"), "0 4", async("e"), "0 5", syncs(), "0 ")
	same(t, "P22.2: as many batches as it takes", x.l.Look(), api.EngineLook{First: 1, Durable: 6, Reserved: 6, Batches: 3})
}

func TestRead(t *testing.T) {
	x := lasting(t, changed(func(p *api.EngineParams) { p.Store.SegMax, p.QueueCap = 70, 8 }), 5)
	x.wants("P22.2", truncate(3), "0 ", async("r6"), "0 6", async("r7"), "0 7")
	ops := x.d.Count()
	for _, lsn := range []int64{math.MinInt64, -1, 0, 1, 2} {
		x.wants("P22.2: below First", read(lsn), "43 0 ")
	}
	for _, lsn := range []int64{3, 4, 5} {
		x.wants("P22.2: below Durable", read(lsn), fmt.Sprintf("0 %d r%d", lsn, lsn), read(lsn), fmt.Sprintf("0 %d r%d", lsn, lsn))
	}
	for _, lsn := range []int64{6, 7, 8, 9, 1 << 40, math.MaxInt64} {
		x.wants("P22.2: reserved, at Reserved and above", read(lsn), "42 0 ")
	}
	same(t, "no operation", x.d.Count(), ops)
	x.wants("P22.2", syncs(), "0 ", read(6), "0 6 r6", read(7), "0 7 r7", read(8), "42 0 ")
}

// The disk's errors are those of a Read; the log has not failed by them.
func TestReadErrors(t *testing.T) {
	x := lasting(t, params(), 3)
	for _, d := range []*disk.Disk{x.d, x.p.d} {
		d.Cut("seg-0000000000000001.log", 60)
	}
	x.wants("P22.2: spoilt beneath", read(1), "0 1 r1", all(0), "0 1 r1")
	rec, err := x.l.Read(3)
	same(t, "P22.2: spoilt beneath", []any{rec, err != api.OK}, []any{api.Record{}, true})
	c := x.l.From(3)
	rec, again := c.Next()
	same(t, "P22.3: spoilt beneath", []any{rec, again, c.At()}, []any{api.Record{}, err, 3})
	x = lasting(t, params(), 3)
	x.arm(api.Fault{At: 1, Kind: api.FaultPower})
	x.d.SyncDir()
	x.p.d.SyncDir()
	x.wants("P22.2: the disk is down", read(1), "22 0 ", next(0), "22 0 ", at(0), "0 1", all(1), "0 ", read(0), "43 0 ", read(4), "42 0 ")
	same(t, "it has not failed", x.l.Look().Failed, false)
}

func TestTruncateFront(t *testing.T) {
	x := lasting(t, changed(func(p *api.EngineParams) { p.Store.SegMax, p.QueueCap = 70, 8 }), 6) // two records a segment
	files := func() int { return len(x.d.Files()) - 1 }
	same(t, "segments", files(), 3)
	ops := x.d.Count()
	x.wants("P22.2", async("r7"), "0 7")
	for _, lsn := range []int64{math.MinInt64, -1, 0, 1} {
		x.wants("P22.2: at most First", truncate(lsn), "0 ")
	}
	for _, lsn := range []int64{8, 9, math.MaxInt64} {
		x.wants("P22.2: above Durable", truncate(lsn), "8 ")
	}
	same(t, "no operation", x.d.Count(), ops)
	for _, k := range []struct {
		lsn   int64
		files int
	}{{2, 3}, {3, 2}, {4, 2}, {5, 1}, {6, 1}, {7, 1}} {
		x.wants("P22.2", truncate(k.lsn), "0 ", read(k.lsn-1), "43 0 ", truncate(k.lsn-1), "0 ", truncate(k.lsn), "0 ")
		same(t, fmt.Sprint("P22.2: segments behind ", k.lsn), fmt.Sprint(files(), x.l.Look().First), fmt.Sprint(k.files, k.lsn))
	}
	x.wants("P22.2: what is reserved does not last", truncate(8), "8 ", syncs(), "0 ", truncate(8), "0 ", truncate(9), "8 ", all(0), "0 ", app("r8"), "0 8", all(0), "0 8 r8")
}

// A catalog that can't be written once more: ErrMany, and the log goes on.
func TestTruncateFrontOfTooMany(t *testing.T) {
	d := disk.New(1 << 20)
	s, _ := segment.Create(d, "seg-0000000000000001.log", api.Head{Num: 1, Base: 5})
	s.Put([]byte("a"), []byte("b"))
	s.Sync()
	b, err := catalog.Write(api.Catalog{Gen: math.MaxInt64, First: 5, Segs: []api.Seg{{Num: 1, Base: 5}}})
	same(t, "a catalog", err, api.OK)
	d.Create("catalog")
	d.Append("catalog", b)
	d.Sync("catalog")
	d.SyncDir()
	x := over(t, d, params())
	x.wants("P22.2", truncate(6), "9 ", truncate(5), "0 ", truncate(8), "8 ", all(0), "0 5 a, 6 b", app("c"), "0 7", closes(), "0 ")
}

// The bound of segments, and the room that a cut makes.
func TestTooManySegments(t *testing.T) {
	small := changed(func(p *api.EngineParams) { p.Store.SegMax, p.Store.Base = 64, 5 })
	x := lasting(t, small, 64)
	x.wants("P22.2: the front makes room", truncate(7), "0 ", app("a"), "0 69", app("b"), "0 70")
	same(t, "P22.5: Look", x.l.Look(), api.EngineLook{First: 7, Durable: 71, Reserved: 71, Batches: 66})
	ops := x.d.Count()
	x.wants("P22.2: there is none", async("c"), "0 71", app("d"), "40 0", syncs(), "40 ")
	same(t, "P22.5: Cause", x.l.Look(), api.EngineLook{First: 7, Durable: 71, Reserved: 73, Batches: 66, Failed: true, Cause: api.ErrMany})
	x.wants("P22.3", stand(0, 70), "0 ", next(0), "0 70 b", next(0), "40 0 ", closes(), "40 ")
	same(t, "no operation", x.d.Count(), ops)
}

// closedCalls are calls of a closed log, with what they answer.
func (x *twin) closedCalls() {
	x.t.Helper()
	for range 2 {
		x.wants("P22.2: closed", app("a"), "41 0", app(long(5000)), "41 0", async("a"), "41 0", async(long(5000)), "41 0", syncs(), "41 ", closes(), "41 ")
		for _, lsn := range []int64{math.MinInt64, -1, 0, 1, 2, 3, 9, math.MaxInt64} {
			x.wants("P22.2: closed", read(lsn), "41 0 ", truncate(lsn), "41 ", nextOf(lsn), "41 0 ", all(lsn), "0 ")
		}
		x.wants("P22.3: closed", at(0), "0 1", next(0), "41 0 ", at(0), "0 1", stand(1, 9), "0 ", next(1), "41 0 ", at(1), "0 9")
	}
}

func TestClose(t *testing.T) {
	x := opened(t, params())
	ops := x.d.Count()
	x.wants("P22.2: nothing to wait for", closes(), "0 ")
	same(t, "no operation", x.d.Count(), ops)
	x.closedCalls()
	same(t, "P22.5: Look", x.l.Look(), api.EngineLook{First: 1, Durable: 1, Reserved: 1, Closing: true, Closed: true})

	x = lasting(t, changed(func(p *api.EngineParams) { p.QueueCap, p.Pace.Most = 8, 2 }), 1)
	x.wants("P22.2: it makes last what does not", async("b"), "0 2", async("c"), "0 3", async("d"), "0 4", closes(), "0 ")
	same(t, "P22.5: Look", x.l.Look(), api.EngineLook{First: 1, Durable: 5, Reserved: 5, Batches: 3, Closing: true, Closed: true})
	ops = x.d.Count()
	x.closedCalls()
	same(t, "no operation behind it", x.d.Count(), ops)
	x.filesAlike()
	x = over(t, x.d, params())
	x.wants("P22.1: opened again", all(0), "0 1 r1, 2 b, 3 c, 4 d", app("e"), "0 5")
}

// Two logs know nothing of each other.
func TestTwoLogs(t *testing.T) {
	x, y := opened(t, params()), opened(t, params())
	x.wants("P0.5", app("a"), "0 1", async("b"), "0 2")
	y.wants("P0.5", read(1), "42 0 ", app("A"), "0 1", closes(), "0 ")
	x.wants("P0.5", syncs(), "0 ", all(0), "0 1 a, 2 b")
	y.wants("P0.5", read(1), "41 0 ")
}
