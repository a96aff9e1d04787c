package store_test

import (
	"fmt"
	"math"
	"slices"
	"strings"
	"testing"

	"flume/api"
	"flume/disk"
	"flume/store"
)

// calling traces a call of a store that was opened on a copy of d and called ahead of that.
func calling(t *testing.T, d *disk.Disk, ps api.Params, ahead []call, c call) string {
	t.Helper()
	return traced(t, func() (*disk.Disk, func()) {
		e := d.Copy()
		s, _ := opened(t, e, ps)
		for _, a := range ahead {
			a.on(s)
		}
		return e, func() { c.on(s) }
	})
}

// flat is the records of all segments.
func flat(lists [][][]byte) (all [][]byte) {
	for _, datas := range lists {
		all = append(all, datas...)
	}
	return all
}

// checkAppend appends records to a log that has some, and looks at all that comes of it: into which segments they go, by which operations.
func checkAppend(t *testing.T, segMax int, had, datas [][]byte, wantOps string, want ...[][]byte) {
	t.Helper()
	what := fmt.Sprintf("SegMax %d, %s behind %s", segMax, appends(datas...), appends(had...))
	ps := params(segMax, 5)
	var ahead []call
	if len(had) > 0 {
		ahead = []call{appends(had...), syncs}
	}
	same(t, "P14.2: the operations: "+what, calling(t, disk.New(1<<20), ps, ahead, appends(datas...)), wantOps)
	x, _ := openTwin(t, disk.New(1<<20), ps)
	x.do(t, ahead...)
	wantAppend(t, what, x.s, 5+int64(len(had)), api.OK, datas...)
	x.p.append(datas)
	x.alike(t, what)

	parts := chained(1, 5, want...)
	c := catalogOf(int64(len(want)), 5, parts)
	same(t, "P14.7: Catalog: "+what, x.s.Catalog(), c)
	next, durable := 5+int64(len(had)+len(datas)), 5+int64(len(had))
	if base := parts[len(parts)-1].seg.Base; strings.Contains(wantOps, "Sync") {
		durable = max(durable, base)
	}
	same(t, "P14.7: Look: "+what, x.s.Look(), api.StoreLook{First: 5, Next: next, Durable: durable, Gen: c.Gen, Segs: len(want)})
	files := []api.File{{Name: "catalog", Bytes: plainCatalog(c)}}
	for _, p := range parts {
		files = append(files, api.File{Name: segName(p.seg.Num), Bytes: p.bytes()})
	}
	same(t, "P14.2: the files: "+what, x.d.Files(), files)
	all := flat(want)
	wantRecords(t, what, x.s, 5, all[:durable-5]...)
	same(t, "P14.3: Sync: "+what, x.s.Sync(), api.OK)
	allLasts(t, "P14.3: "+what, x.d)
	wantRecords(t, what, x.s, 5, all...)
	s, found := opened(t, x.d, ps)
	same(t, "P14.1: opened again: "+what, found, api.Found{})
	wantRecords(t, what, s, 5, all...)
}

func TestAppend(t *testing.T) {
	a, b, c := []byte("a"), []byte("b"), []byte("c")
	none := []byte(nil)
	roll := func(n int) string { return inOrder(slices.Repeat([]string{rollOps, "Append"}, n)...) }
	checkAppend(t, 64, nil, texts("a"), "Append", texts("a"))
	checkAppend(t, 64, nil, [][]byte{none}, "Append", [][]byte{none})
	checkAppend(t, 64, texts("a"), texts("b"), roll(1), texts("a"), texts("b"))
	checkAppend(t, 64, nil, texts("a", "b", "c"), "Append "+roll(2), texts("a"), texts("b"), texts("c"))
	checkAppend(t, 64, texts("a"), texts("b", "c", "d"), roll(3), texts("a"), texts("b"), texts("c"), texts("d"))
	// 32 + 17 + 17 is 66.
	checkAppend(t, 66, nil, texts("a", "b"), "Append", texts("a", "b"))
	checkAppend(t, 66, texts("a"), texts("b"), "Append", texts("a", "b"))
	checkAppend(t, 65, nil, texts("a", "b"), "Append "+roll(1), texts("a"), texts("b"))
	checkAppend(t, 65, texts("a"), texts("b"), roll(1), texts("a"), texts("b"))
	checkAppend(t, 66, texts("a"), texts("b", "c"), "Append "+roll(1), texts("a", "b"), texts("c"))
	checkAppend(t, 66, texts("a"), texts("b", "c", "d", "e", "f"), "Append "+roll(2), texts("a", "b"), texts("c", "d"), texts("e", "f"))
	checkAppend(t, 66, texts("a", "b"), texts("c", "d", "e"), roll(2), texts("a", "b"), texts("c", "d"), texts("e"))
	checkAppend(t, 64, nil, [][]byte{none, none, none}, "Append "+roll(1), [][]byte{none, none}, [][]byte{none})
	// One record fills a segment to SegMax, or is a byte too much for it: that makes no roll ahead of the first one.
	checkAppend(t, 64, nil, [][]byte{big(16), none}, "Append "+roll(1), [][]byte{big(16)}, [][]byte{none})
	checkAppend(t, 64, nil, [][]byte{big(17), none}, "Append "+roll(1), [][]byte{big(17)}, [][]byte{none})
	checkAppend(t, 64, nil, [][]byte{big(4096)}, "Append", [][]byte{big(4096)})
	checkAppend(t, 64, nil, [][]byte{big(4096), a, big(4096), b}, "Append "+roll(3), [][]byte{big(4096)}, [][]byte{a}, [][]byte{big(4096)}, [][]byte{b})
	checkAppend(t, 64, [][]byte{a}, [][]byte{big(4096), c}, roll(2), [][]byte{a}, [][]byte{big(4096)}, [][]byte{c})
	// A small one behind a great one goes on in the new segment, not in the old one, where it would fit.
	checkAppend(t, 100, [][]byte{a}, [][]byte{big(50), a, b}, roll(2), [][]byte{a}, [][]byte{big(50)}, [][]byte{a, b})
	checkAppend(t, 4160, [][]byte{a}, [][]byte{big(4096), b, c}, roll(2), [][]byte{a}, [][]byte{big(4096)}, [][]byte{b, c})
	checkAppend(t, 4161, [][]byte{a}, [][]byte{big(4096), b, c}, "Append "+roll(1), [][]byte{a, big(4096)}, [][]byte{b, c})
}

func TestAppendMany(t *testing.T) {
	var datas [][]byte
	for i := range 1000 {
		datas = append(datas, []byte(fmt.Sprint("record ", i)))
	}
	checkAppend(t, 1<<20, nil, datas, "Append", datas)
	checkAppend(t, 1<<20, datas[:10], datas[10:], "Append", datas)
	var lists [][][]byte
	size := 1 << 20
	for _, data := range datas {
		if size+16+len(data) > 1024 {
			lists = append(lists, nil)
			size = 32
		}
		lists[len(lists)-1] = append(lists[len(lists)-1], data)
		size += 16 + len(data)
	}
	ops := "Append " + inOrder(slices.Repeat([]string{rollOps, "Append"}, len(lists)-1)...)
	checkAppend(t, 1024, nil, datas, ops, lists...)
}

// refusing asks that a call is refused with no operation, and that nothing has changed.
func refusing(t *testing.T, what string, d *disk.Disk, s *store.Store, c call, want api.Errno) {
	t.Helper()
	was, look, cat := tell(d), s.Look(), s.Catalog()
	lsn, err := c.on(s)
	same(t, what, fmt.Sprint(lsn, err), fmt.Sprint(0, want))
	same(t, what+": no operation", tell(d), was)
	same(t, what+": Look", s.Look(), look)
	same(t, what+": Catalog", s.Catalog(), cat)
}

func TestAppendRefused(t *testing.T) {
	d, s := fresh(t, texts("a")...)
	wantAppend(t, "does not last yet", s, 2, api.OK, []byte("b"))
	arm(t, d, api.Fault{At: 1, Kind: api.FaultIO}) // It befalls none of those.
	refusing(t, "P14.2: none", d, s, appends(), api.ErrArg)
	refusing(t, "P14.2: none, of an empty list", d, s, appends([][]byte{}...), api.ErrArg)
	long := big(4097)
	for _, datas := range [][][]byte{{long}, {long, nil}, {nil, long}, {nil, long, nil}, {big(4096), long}, {big(1 << 16)}, append(make([][]byte, 200), long)} {
		refusing(t, "P14.2: 4,097 bytes", d, s, appends(datas...), api.ErrLong)
	}
	arm(t, d)
	wantAppend(t, "behind what was refused", s, 3, api.OK, big(4096))
	same(t, "P14.3: Sync", s.Sync(), api.OK)
	wantRecords(t, "behind what was refused", s, 1, []byte("a"), []byte("b"), big(4096))
}

func TestAppendAtTheLastLSN(t *testing.T) {
	for left := range 5 {
		base := int64(math.MaxInt64) - int64(left)
		for _, segMax := range []int{64, 4096} {
			ps := params(segMax, base)
			d := disk.New(1 << 20)
			s, _ := opened(t, d, ps)
			for n := left + 1; n < left+4; n++ {
				refusing(t, "P14.2: beyond the last LSN", d, s, appends(make([][]byte, n)...), api.ErrEnd)
			}
			refusing(t, "P14.2: far beyond the last LSN, and too many rolls", d, s, appends(slices.Repeat([][]byte{big(100)}, 100)...), api.ErrEnd)
			refusing(t, "P14.2: none, at the end", d, s, appends(), api.ErrArg)
			refusing(t, "P14.2: too long, at the end", d, s, appends(append(make([][]byte, left), big(4097))...), api.ErrLong)
			var datas [][]byte
			for i := range left {
				datas = append(datas, []byte(fmt.Sprint("last ", i)))
			}
			if left > 0 {
				wantAppend(t, "all that are left", s, base, api.OK, datas...)
			}
			same(t, "P14.7: Next", s.Look().Next, math.MaxInt64)
			refusing(t, "P14.2: behind the last LSN", d, s, appends(nil), api.ErrEnd)
			same(t, "P14.3: Sync", s.Sync(), api.OK)
			same(t, "P14.7: Durable", s.Look().Durable, math.MaxInt64)
			for range 2 {
				for i, data := range datas {
					rec, err := s.Read(base + int64(i))
					same(t, "P14.4: Read", fmt.Sprint(rec.LSN, string(rec.Data), err), fmt.Sprint(base+int64(i), string(data), 0))
				}
				wantRead(t, "behind the last LSN", s, math.MaxInt64, api.ErrNotYet)
				s, _ = opened(t, d, ps)
				refusing(t, "P14.2: behind the last LSN, opened again", d, s, appends(nil), api.ErrEnd)
			}
			same(t, "P14.5: all goes", s.TruncateFront(math.MaxInt64), api.OK)
			same(t, "P14.7: First", fmt.Sprint(s.Look().First, s.Look().Segs), fmt.Sprint(math.MaxInt64, 1))
			wantOpenAgain(t, "all is gone", d, ps, s)
		}
	}
}

// wantOpenAgain opens the log anew, which is to be as the store told it.
func wantOpenAgain(t *testing.T, what string, d *disk.Disk, ps api.Params, s *store.Store) {
	t.Helper()
	o, found := opened(t, d, ps)
	same(t, "P14.1: opened again: "+what, found, api.Found{})
	same(t, "P14.7: opened again: "+what, fmt.Sprint(o.Look(), o.Catalog()), fmt.Sprint(s.Look(), s.Catalog()))
}

// one is n segments of one record each.
func one(n int) [][][]byte {
	var lists [][][]byte
	for i := range n {
		lists = append(lists, [][]byte{[]byte(fmt.Sprint(i))})
	}
	return lists
}

// A log with room for n rolls takes so many, and no more; it has not failed then.
func checkRoom(t *testing.T, what string, gen, num int64, segs, room int) {
	t.Helper()
	what = fmt.Sprintf("%s: room for %d", what, room)
	lists := one(segs)
	// The open one is empty: the first record makes no roll.
	lists[segs-1] = nil
	d := laid(t, gen, 1, chained(num, 1, lists...))
	x, _ := openTwin(t, d, params(64, 1))
	s := x.s
	next := s.Look().Next
	for n := room + 2; n < room+4; n++ {
		refusing(t, "P14.2: "+what, d, s, appends(flat(one(n))...), api.ErrMany)
	}
	refusing(t, "P14.2: an error ahead: "+what, d, s, appends(append(flat(one(70)), big(4097))...), api.ErrLong)
	x.do(t, appends(flat(one(room+2))...))
	same(t, "P14.2: not failed: "+what, s.Look().Failed, false)
	same(t, "P14.2: just as many as fit: "+what, x.do(t, appends(flat(one(room+1))...)), api.OK)
	same(t, "P14.7: Look: "+what, s.Look(), api.StoreLook{First: 1, Next: next + int64(room) + 1, Durable: next + int64(room), Gen: gen + int64(room), Segs: segs + room})
	refusing(t, "P14.2: no more: "+what, d, s, appends(nil, nil), api.ErrMany)
	same(t, "P14.2: as long as there is no roll: "+what, x.do(t, syncs, syncs), api.OK)
	if segs+room == 64 && gen == 100 {
		same(t, "P14.5: makes room again: "+what, x.do(t, truncates(s.Look().Durable), appends(flat(one(5))...)), api.OK)
	}
}

func TestAppendWithoutRoomInTheCatalog(t *testing.T) {
	for _, segs := range []int{1, 2, 62, 63, 64} {
		checkRoom(t, "segments", 100, 7, segs, 64-segs)
	}
	for room := range 4 {
		checkRoom(t, "Gen", math.MaxInt64-int64(room), 7, 2, room)
		checkRoom(t, "Num", 100, math.MaxInt64-1-int64(room), 2, room)
		checkRoom(t, "both", math.MaxInt64-int64(room), math.MaxInt64-1-int64(room)-1, 2, room)
		checkRoom(t, "segments ahead of Gen", math.MaxInt64-int64(room)-1, 7, 64-room, room)
	}
}

// Where a segment has no room, but the record makes no roll, none is asked for.
func TestAppendIntoTheLastSegment(t *testing.T) {
	lists := one(64)
	d := laid(t, math.MaxInt64, 1, chained(math.MaxInt64-63, 1, lists...))
	x, _ := openTwin(t, d, params(67, 1))
	same(t, "P14.2: it fits", x.do(t, appends([]byte("z"))), api.OK)
	refusing(t, "P14.2: it does not", d, x.s, appends(nil), api.ErrMany)
	same(t, "P14.3: Sync", x.do(t, syncs), api.OK)
	refusing(t, "P14.5: no Gen is left", d, x.s, truncates(2), api.ErrMany)
	refusing(t, "P14.5: nothing to do", d, x.s, truncates(1), api.OK)
	refusing(t, "P14.5: beyond", d, x.s, truncates(67), api.ErrBounds)
}

// A log goes on with whatever SegMax it is opened with; a sealed segment has at most the greatest, or one record.
func TestAppendWithAnotherSegMax(t *testing.T) {
	d := disk.New(1 << 20)
	x, _ := openTwin(t, d, params(200, 1))
	x.do(t, appends(texts("a", "b", "c", "d")...), syncs)
	same(t, "P14.2: one segment", x.s.Look().Segs, 1)
	x, _ = openTwin(t, d, params(64, 1))
	x.do(t, appends(texts("e", "f")...), syncs)
	same(t, "P14.2: a lesser SegMax", x.s.Look().Segs, 3)
	x, _ = openTwin(t, d, params(200, 1))
	x.do(t, appends(texts("g", "h")...), syncs)
	same(t, "P14.2: a greater one", x.s.Look().Segs, 3)
	for _, g := range x.s.Catalog().Segs[:2] {
		if g.Size > 200 {
			t.Fatalf("what follows: a sealed segment of %d bytes", g.Size)
		}
	}
	wantRecords(t, "all", x.s, 1, texts("a", "b", "c", "d", "e", "f", "g", "h")...)
}
