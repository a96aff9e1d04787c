package store_test

import (
	"fmt"
	"math"
	"slices"
	"testing"

	"flume/api"
	"flume/disk"
	"flume/store"
)

// opening traces Open of a copy of d.
func opening(t *testing.T, d *disk.Disk, p api.Params) string {
	t.Helper()
	return traced(t, func() (*disk.Disk, func()) {
		c := d.Copy()
		return c, func() { store.Open(c, p) }
	})
}

func TestExamples(t *testing.T) {
	p := params(64, 1)
	same(t, "P14.1: the operations", opening(t, disk.New(1<<20), p), "Create Append Sync Create Append Sync Rename SyncDir")
	d := disk.New(1 << 20)
	s, found := opened(t, d, p)
	same(t, "P14.1: Found", found, api.Found{Fresh: true})
	wantAppend(t, "a, b, c", s, 1, api.OK, texts("a", "b", "c")...)
	same(t, "P14.7: Look", s.Look(), api.StoreLook{First: 1, Next: 4, Durable: 3, Gen: 3, Segs: 3})
	same(t, "P14.2: the last one is not synced", d.Tails(0)[3], api.Tail{Name: segName(3), N: 17})
	same(t, "P14.3: Sync", s.Sync(), api.OK)
	same(t, "P14.7: Durable", s.Look().Durable, 4)
	wantRecords(t, "the examples", s, 1, texts("a", "b", "c")...)
	same(t, "P14.5: TruncateFront(3)", s.TruncateFront(3), api.OK)
	same(t, "P14.7: Look", s.Look(), api.StoreLook{First: 3, Next: 4, Durable: 4, Gen: 4, Segs: 1})
	same(t, "P14.5: the files", namesOf(d), "catalog "+segName(3))
	wantRecords(t, "the examples, cut", s, 3, texts("c")...)
	arm(t, d, api.Fault{At: 1, Kind: api.FaultIO})
	wantAppend(t, "with a fault", s, 0, api.ErrFailed, texts("d")...)
	wantAppend(t, "failed", s, 0, api.ErrFailed, texts("e")...)
	same(t, "P14.3: Sync of a failed one", s.Sync(), api.ErrFailed)
	wantRecords(t, "failed", s, 3, texts("c")...)
	same(t, "P14.7: Look", s.Look(), api.StoreLook{First: 3, Next: 4, Durable: 4, Gen: 4, Segs: 1, Failed: true, Cause: api.ErrIO})
}

func TestOpenOfAnEmptyDisk(t *testing.T) {
	for _, base := range []int64{1, 2, 1 << 40, math.MaxInt64 - 1, math.MaxInt64} {
		for _, segMax := range []int{64, 65, 4096, 1 << 20} {
			d := disk.New(1 << 20)
			s, found := opened(t, d, params(segMax, base))
			same(t, "P14.1: Found", found, api.Found{Fresh: true})
			c := api.Catalog{Gen: 1, First: base, Segs: []api.Seg{{Num: 1, Base: base}}}
			head, _ := plainHead(api.Head{Num: 1, Base: base})
			want := []api.File{{Name: "catalog", Bytes: plainCatalog(c)}, {Name: segName(1), Bytes: head}}
			same(t, "P14.1: the files", d.Files(), want)
			allLasts(t, "P14.1: fresh", d)
			same(t, "P14.7: Look", s.Look(), api.StoreLook{First: base, Next: base, Durable: base, Gen: 1, Segs: 1})
			same(t, "P14.7: Catalog", s.Catalog(), c)
			wantRead(t, "fresh", s, base, api.ErrNotYet)
			wantRead(t, "fresh", s, base-1, api.ErrTruncated)
		}
	}
}

func TestOpenRefused(t *testing.T) {
	d := disk.New(1 << 20)
	put(t, d, "catalog-next", nil) // So that there would be something to do.
	was := tell(d)
	for _, p := range []api.Params{
		{}, params(63, 1), params(0, 1), params(-1, 1), params(-64, 1), params(1<<20+1, 1), params(math.MaxInt, 1), params(math.MinInt, 1),
		params(64, 0), params(64, -1), params(64, math.MinInt64), params(1<<20, 0), params(63, 0),
	} {
		wantOpen(t, fmt.Sprint("params ", p), d, p, api.ErrArg)
		wantOpen(t, fmt.Sprint("no disk, params ", p), nil, p, api.ErrArg)
	}
	wantOpen(t, "no disk", nil, params(64, 1), api.ErrArg)
	same(t, "P14.1: no operation", tell(d), was)
	wantOpen(t, "the zero disk", &disk.Disk{}, params(64, 1), api.ErrDown)
	wantOpen(t, "the zero disk, wrong params", &disk.Disk{}, params(63, 1), api.ErrArg)
	arm(t, d, api.Fault{At: 1, Kind: api.FaultPower})
	same(t, "the fault", d.SyncDir(), api.ErrDown)
	was = tell(d)
	wantOpen(t, "a disk that is down", d, params(64, 1), api.ErrDown)
	wantOpen(t, "a disk that is down, wrong params", d, params(64, 0), api.ErrArg)
	same(t, "P14.1: no operation", tell(d), was)
}

// wantByName asks that Open removes those files first, in their order: the Remove of each fails in its turn.
func wantByName(t *testing.T, d *disk.Disk, names []string) {
	t.Helper()
	for i, name := range names {
		c := d.Copy()
		arm(t, c, api.Fault{At: int64(i + 1), Kind: api.FaultIO})
		wantOpen(t, "a Remove fails", c, params(64, 1), api.ErrIO)
		same(t, "P14.1: by name: still there: "+name, string(bytesOf(c, name)), string(bytesOf(d, name)))
		same(t, "P14.1: by name: how many went ahead of "+name, len(d.Files())-len(c.Files()), i)
	}
}

// A file of each kind, and what becomes of it.
func TestOpenWithoutACatalog(t *testing.T) {
	d := disk.New(1 << 20)
	others := []string{"a", "catalog.old", "catalog-nex", "seg-1.log", "seg-0000000000000000.log", "segment", "z"}
	strays := []string{"catalog-next", segName(1), segName(2), segName(math.MaxInt64), "segment-next"}
	for _, name := range slices.Concat(others, strays) {
		put(t, d, name, []byte("of "+name))
	}
	same(t, "SyncDir", d.SyncDir(), api.OK)
	same(t, "P14.1: the operations", opening(t, d, params(64, 7)), inOrder("Remove Remove Remove Remove Remove SyncDir", freshOps))
	wantByName(t, d, strays)
	s, found := opened(t, d, params(64, 7))
	same(t, "P14.1: Found", found, api.Found{Fresh: true, Removed: 5})
	for _, name := range others {
		same(t, "P14.1: others stay", string(bytesOf(d, name)), "of "+name)
	}
	same(t, "P14.1: the files", len(d.Files()), len(others)+2)
	same(t, "P14.7: Look", s.Look(), api.StoreLook{First: 7, Next: 7, Durable: 7, Gen: 1, Segs: 1})
	allLasts(t, "P14.1: fresh", d)
	wantAppend(t, "goes on", s, 7, api.OK, texts("x")...)
}

// Where no file was removed there is no SyncDir for it.
func TestOpenBesideOtherFiles(t *testing.T) {
	d := disk.New(1 << 20)
	put(t, d, "other", []byte("kept"))
	d.SyncDir()
	same(t, "P14.1: the operations", opening(t, d, params(64, 1)), freshOps)
	_, found := opened(t, d, params(64, 1))
	same(t, "P14.1: Found", found, api.Found{Fresh: true})
	same(t, "P14.1: the other one", string(bytesOf(d, "other")), "kept")
	same(t, "P14.1: a log with another file beside it", opening(t, d, params(64, 1)), "")
}

// threeParts is a log of three segments.
func threeParts() []part {
	return chained(4, 10, texts("ten", "eleven"), texts("12"), texts("13", "", "15"))
}

var threeDatas = []string{"ten", "eleven", "12", "13", "", "15"}

func TestOpenOfALog(t *testing.T) {
	for first := int64(10); first <= 12; first++ {
		d := laid(t, 9, first, threeParts())
		was := tell(d)
		for range 2 {
			s, found := opened(t, d, params(64, 77)) // The Base counts for a log that is begun, and for no other.
			same(t, "P14.1: Found", found, api.Found{})
			same(t, "P14.1: no operation", tell(d), was)
			same(t, "P14.7: Look", s.Look(), api.StoreLook{First: first, Next: 16, Durable: 16, Gen: 9, Segs: 3})
			same(t, "P14.7: Catalog", s.Catalog(), catalogOf(9, first, threeParts()))
			wantRecords(t, "a log", s, first, texts(threeDatas[first-10:]...)...)
		}
	}
}

func TestOpenWithStrays(t *testing.T) {
	d := laid(t, 9, 11, threeParts())
	for _, name := range []string{"segment-next", segName(3), "other", "catalog-next", segName(7), segName(1 << 50)} {
		put(t, d, name, []byte("of "+name))
	}
	d.SyncDir()
	same(t, "P14.1: the operations", opening(t, d, params(64, 1)), "Remove Remove Remove Remove Remove SyncDir")
	wantByName(t, d, []string{"catalog-next", segName(3), segName(7), segName(1 << 50), "segment-next"})
	s, found := opened(t, d, params(64, 1))
	same(t, "P14.1: Found", found, api.Found{Removed: 5})
	same(t, "P14.1: the files", namesOf(d), "catalog other "+segName(4)+" "+segName(5)+" "+segName(6))
	allLasts(t, "P14.1: strays", d)
	wantRecords(t, "strays", s, 11, texts(threeDatas[1:]...)...)
}

// Changes that pend are made to last ahead of all else.
func TestOpenWithChangesThatPend(t *testing.T) {
	d := disk.New(1 << 20)
	d.Create("other")
	same(t, "P14.1: no catalog, one change", opening(t, d, params(64, 1)), inOrder("SyncDir", freshOps))
	d.Create("catalog-next")
	same(t, "P14.1: no catalog, a stray", opening(t, d, params(64, 1)), inOrder("SyncDir Remove SyncDir", freshOps))

	d = laid(t, 9, 11, threeParts())
	d.Create("other")
	same(t, "P14.1: a catalog, one change", opening(t, d, params(64, 1)), "SyncDir")
	d.Rename("other", "catalog-next")
	same(t, "P14.1: a catalog, a stray", opening(t, d, params(64, 1)), "SyncDir Remove SyncDir")
	_, found := opened(t, d, params(64, 1))
	same(t, "P14.1: Found", found, api.Found{Removed: 1})
	allLasts(t, "P14.1: what pended", d)

	// The catalog itself pends: it is there, and lasts behind Open.
	d = disk.New(1 << 20)
	for _, p := range threeParts() {
		put(t, d, segName(p.seg.Num), p.bytes())
	}
	put(t, d, "catalog", plainCatalog(catalogOf(9, 11, threeParts())))
	s, found := opened(t, d, params(64, 1))
	same(t, "P14.1: Found", found, api.Found{})
	d.Crash(api.Fate{})
	wantRecords(t, "behind a Crash", s, 11, texts(threeDatas[1:]...)...)
}

func TestOpenOfARefusedCatalog(t *testing.T) {
	good := plainCatalog(catalogOf(9, 11, threeParts()))
	bad := [][]byte{nil, []byte("FCAT"), good[:len(good)-1], append(slices.Clone(good), 0), plainCatalog(api.Catalog{}), plainCatalog(catalogOf(0, 11, threeParts())), plainCatalog(catalogOf(9, 13, threeParts()))}
	for i := range good {
		b := slices.Clone(good)
		b[i] ^= 1
		bad = append(bad, b)
	}
	for _, b := range bad {
		d := laid(t, 9, 11, threeParts())
		d.Remove("catalog")
		put(t, d, "catalog", b)
		put(t, d, "catalog-next", good)
		d.SyncDir()
		was := tell(d)
		wantOpen(t, fmt.Sprintf("catalog %x", b), d, params(64, 1), api.ErrCorrupt)
		same(t, "P14.1: no operation", tell(d), was)
	}
}

// spoilt is a log of three segments that something was done to.
func spoilt(t *testing.T, do func(parts []part), disk func(d *disk.Disk)) *disk.Disk {
	t.Helper()
	parts := threeParts()
	if do != nil {
		do(parts)
	}
	d := laid(t, 9, 11, parts)
	if disk != nil {
		disk(d)
		d.SyncDir()
	}
	return d
}

// rewritten puts other bytes into a file.
func rewritten(t *testing.T, name string, b []byte) func(d *disk.Disk) {
	return func(d *disk.Disk) {
		d.Remove(name)
		put(t, d, name, b)
	}
}

func wantCorrupt(t *testing.T, what string, d *disk.Disk) {
	t.Helper()
	was := tell(d)
	wantOpen(t, what, d, params(64, 1), api.ErrCorrupt)
	same(t, "P14.1: no operation: "+what, tell(d), was)
}

func TestOpenOfWrongHeads(t *testing.T) {
	for i, p := range threeParts() {
		name := segName(p.seg.Num)
		what := fmt.Sprint("segment ", i)
		wantCorrupt(t, what+" is not there", spoilt(t, nil, func(d *disk.Disk) { d.Remove(name) }))
		wantCorrupt(t, what+" has another name", spoilt(t, nil, func(d *disk.Disk) { d.Rename(name, "other") }))
		wantCorrupt(t, what+" is empty", spoilt(t, nil, rewritten(t, name, nil)))
		wantCorrupt(t, what+" has no whole head", spoilt(t, nil, rewritten(t, name, p.bytes()[:31])))
		turned := p.bytes()
		turned[20] ^= 1
		wantCorrupt(t, what+" has no head", spoilt(t, nil, rewritten(t, name, turned)))
		for _, h := range []api.Head{
			{Num: p.seg.Num + 1, Base: p.seg.Base, Seed: p.seg.Seed}, {Num: p.seg.Num, Base: p.seg.Base + 1, Seed: p.seg.Seed},
			{Num: p.seg.Num, Base: p.seg.Base - 1, Seed: p.seg.Seed}, {Num: p.seg.Num, Base: p.seg.Base, Seed: p.seg.Seed + 1},
		} {
			b, _ := plainFile(h, p.datas...)
			wantCorrupt(t, fmt.Sprint(what, " has the head ", h), spoilt(t, nil, rewritten(t, name, b)))
		}
	}
}

// reseeded lets the segments behind i begin as their new heads say.
func reseeded(parts []part, i int) {
	for ; i+1 < len(parts); i++ {
		_, parts[i+1].seg.Seed = plainFile(parts[i].head(), parts[i].datas...)
	}
}

func TestOpenOfWrongSealedSegments(t *testing.T) {
	for i := range 2 {
		p := threeParts()[i]
		name := segName(p.seg.Num)
		what := fmt.Sprint("segment ", i)
		b := p.bytes()
		wantCorrupt(t, what+" has a byte more", spoilt(t, nil, rewritten(t, name, append(slices.Clone(b), 0))))
		wantCorrupt(t, what+" has a byte less", spoilt(t, nil, rewritten(t, name, b[:len(b)-1])))
		turned := slices.Clone(b)
		turned[len(b)-1] ^= 1
		wantCorrupt(t, what+" has a turned byte", spoilt(t, nil, rewritten(t, name, turned)))
		longer, _ := plainFile(p.head(), append(slices.Clone(p.datas), []byte("more"))...)
		wantCorrupt(t, what+" has a record more", spoilt(t, nil, rewritten(t, name, longer)))
		shorter, _ := plainFile(p.head(), p.datas[1:]...)
		wantCorrupt(t, what+" has a record less", spoilt(t, nil, rewritten(t, name, shorter)))
		for _, size := range []int{32, len(b) - 1, len(b) + 1, 1<<31 - 1} {
			wantCorrupt(t, fmt.Sprint(what, " should have the Size ", size), spoilt(t, func(parts []part) { parts[i].seg.Size = size }, nil))
		}
		// The bytes are as many as the catalog says, but not all of them are frames.
		wantCorrupt(t, what+" has bytes behind its frames, that Size counts", spoilt(t, func(parts []part) { parts[i].seg.Size += 3 }, rewritten(t, name, append(slices.Clone(b), 1, 2, 3))))
		// Those of the segment's bytes that are frames are as many as the catalog says, but they are not all.
		wantCorrupt(t, what+" has bytes behind its frames, that Size does not count", spoilt(t, nil, rewritten(t, name, append(slices.Clone(b), 1, 2, 3))))
	}
}

// All fits but that a segment ends at another LSN than the next one begins at.
func TestOpenOfAWrongEnd(t *testing.T) {
	for _, by := range []int64{-1, 1, 2} {
		wantCorrupt(t, fmt.Sprint("End is off by ", by), spoilt(t, func(parts []part) {
			parts[1].seg.End += by
			parts[2].seg.Base += by
		}, nil))
	}
}

// All fits but that a segment is not chained to the one ahead.
func TestOpenOfAWrongSeed(t *testing.T) {
	for i := 1; i < 3; i++ {
		for _, by := range []uint32{1, 1 << 31} {
			wantCorrupt(t, fmt.Sprint("the seed of segment ", i), spoilt(t, func(parts []part) {
				parts[i].seg.Seed += by
				reseeded(parts, i)
			}, nil))
		}
	}
	// The first one's Seed has nothing ahead of it: whatever it is, it is the log's.
	d := spoilt(t, func(parts []part) {
		parts[0].seg.Seed = 99
		reseeded(parts, 0)
	}, nil)
	s, _ := opened(t, d, params(64, 1))
	wantRecords(t, "another first seed", s, 11, texts(threeDatas[1:]...)...)
}

// What is wrong is told behind the operations that come ahead of looking at it.
func TestOpenOfWrongSegmentsWithStrays(t *testing.T) {
	d := spoilt(t, nil, func(d *disk.Disk) { d.Remove(segName(5)) })
	d.Create("catalog-next")
	same(t, "P14.1: the operations", opening(t, d, params(64, 1)), "SyncDir Remove SyncDir")
	wantOpen(t, "a segment is not there", d, params(64, 1), api.ErrCorrupt)
	same(t, "P14.1: the files", namesOf(d), "catalog "+segName(4)+" "+segName(6))
	d.Create("catalog-next")
	arm(t, d, api.Fault{At: 2, Kind: api.FaultIO})
	wantOpen(t, "an operation fails first", d, params(64, 1), api.ErrIO)
}

func TestOpenWithFirstAboveNext(t *testing.T) {
	parts := chained(1, 10, texts("ten", "eleven"))
	for first := int64(10); first <= 12; first++ {
		s, _ := opened(t, laid(t, 3, first, parts), params(64, 1))
		same(t, "P14.7: Look", s.Look(), api.StoreLook{First: first, Next: 12, Durable: 12, Gen: 3, Segs: 1})
		wantRecords(t, "First up to Next", s, first, texts("ten", "eleven")[first-10:]...)
	}
	for _, first := range []int64{13, 14, math.MaxInt64} {
		d := laid(t, 3, first, parts)
		wantCorrupt(t, fmt.Sprint("First is ", first), d)
		d.Append(segName(1), []byte("xyz"))
		wantCorrupt(t, fmt.Sprint("First is ", first, ", with a tail"), d)
	}
	// A record that is cut short is not there.
	d := laid(t, 3, 12, parts)
	size, _ := d.Size(segName(1))
	d.Cut(segName(1), size-1)
	wantCorrupt(t, "the last record is cut short", d)
}

// Bytes behind the last frame, all of which last: they are cut away.
func TestOpenWithBytesBehind(t *testing.T) {
	parts := threeParts()
	_, seed := plainFile(parts[2].head(), parts[2].datas...)
	next, _ := plainFrame(seed, 16, []byte("sixteen"))
	for _, rest := range [][]byte{{0}, make([]byte, 15), make([]byte, 16), make([]byte, 5000), next[:len(next)-1], append(slices.Clone(next[:16]), "sixteeN"...), []byte("zzz")} {
		what := fmt.Sprintf("%d bytes behind", len(rest))
		d := laid(t, 9, 11, parts)
		d.Append(segName(6), rest)
		d.Sync(segName(6))
		same(t, "P14.1: the operations: "+what, opening(t, d, params(64, 1)), "Cut")
		s, found := opened(t, d, params(64, 1))
		same(t, "P14.1: Found: "+what, found, api.Found{Lost: len(rest)})
		same(t, "P14.1: the file: "+what, string(bytesOf(d, segName(6))), string(parts[2].bytes()))
		allLasts(t, "P14.1: "+what, d)
		same(t, "P14.7: Look: "+what, s.Look(), api.StoreLook{First: 11, Next: 16, Durable: 16, Gen: 9, Segs: 3})
		wantRecords(t, what, s, 11, texts(threeDatas[1:]...)...)
		wantAppend(t, what, s, 16, api.OK, []byte("16"))
		same(t, "P14.3: Sync: "+what, s.Sync(), api.OK)
		d.Crash(api.Fate{})
		s, found = opened(t, d, params(64, 1))
		same(t, "P14.1: Found: "+what, found, api.Found{})
		wantRecords(t, what, s, 11, texts(append(threeDatas[1:], "16")...)...)
	}
}

// A tail: the front is written anew, whatever part of it lasted.
func TestOpenWithATail(t *testing.T) {
	parts := threeParts()
	_, seed := plainFile(parts[2].head(), parts[2].datas...)
	next, _ := plainFrame(seed, 16, []byte("sixteen"))
	for _, c := range []struct {
		rest []byte
		lost int
		more []string
	}{
		{[]byte("z"), 1, nil}, {make([]byte, 5000), 5000, nil}, {next[:22], 22, nil},
		{next, 0, []string{"sixteen"}}, {append(slices.Clone(next), "rest"...), 4, []string{"sixteen"}},
	} {
		for _, spoil := range []bool{false, true} {
			what := fmt.Sprintf("a tail of %d bytes, spoilt: %v", len(c.rest), spoil)
			d := laid(t, 9, 11, parts)
			d.Append(segName(6), c.rest)
			if spoil {
				arm(t, d, api.Fault{At: 1, Kind: api.FaultIO})
				same(t, "Sync", d.Sync(segName(6)), api.ErrIO)
			}
			same(t, "P14.1: the operations: "+what, opening(t, d, params(64, 1)), "Create Append Sync Rename SyncDir")
			s, found := opened(t, d, params(1024, 1))
			same(t, "P14.1: Found: "+what, found, api.Found{Lost: c.lost})
			all := slices.Concat(threeDatas, c.more)
			want := part{parts[2].seg, slices.Concat(parts[2].datas, texts(c.more...))}
			same(t, "P14.1: the file: "+what, string(bytesOf(d, segName(6))), string(want.bytes()))
			same(t, "P14.1: the files: "+what, namesOf(d), "catalog "+segName(4)+" "+segName(5)+" "+segName(6))
			allLasts(t, "P14.1: "+what, d)
			end := int64(10 + len(all))
			same(t, "P14.7: Look: "+what, s.Look(), api.StoreLook{First: 11, Next: end, Durable: end, Gen: 9, Segs: 3})
			wantRecords(t, what, s, 11, texts(all[1:]...)...)
			wantAppend(t, what, s, end, api.OK, []byte("on"))
			same(t, "P14.3: Sync: "+what, s.Sync(), api.OK)
			d.Crash(api.Fate{})
			s, _ = opened(t, d, params(64, 1))
			wantRecords(t, what, s, 11, texts(append(all[1:], "on")...)...)
		}
	}
}

// A tail of another file is nobody's business.
func TestOpenWithTailsElsewhere(t *testing.T) {
	d := laid(t, 9, 11, threeParts())
	d.Create("other")
	d.Append("other", []byte("tail"))
	d.SyncDir()
	same(t, "P14.1: the operations", opening(t, d, params(64, 1)), "")
	// A head alone, with a tail.
	d = disk.New(1 << 20)
	opened(t, d, params(64, 5))
	d.Append(segName(1), []byte("z"))
	same(t, "P14.1: the operations", opening(t, d, params(64, 1)), "Create Append Sync Rename SyncDir")
	s, found := opened(t, d, params(64, 1))
	same(t, "P14.1: Found", found, api.Found{Lost: 1})
	same(t, "P14.7: Look", s.Look(), api.StoreLook{First: 5, Next: 5, Durable: 5, Gen: 1, Segs: 1})
}

// Behind a Crash opening needs no room: bytes behind the last frame are cut away on a full disk, too.
func TestOpenOfAFullDisk(t *testing.T) {
	files := 32 + len(plainCatalog(api.Catalog{Gen: 1, First: 1, Segs: []api.Seg{{Num: 1, Base: 1}}}))
	d := disk.New(files + 17 + 5)
	s, _ := opened(t, d, params(128, 1))
	wantAppend(t, "fits", s, 1, api.OK, []byte("a"))
	wantAppend(t, "does not fit", s, 0, api.ErrFailed, big(10))
	same(t, "P14.7: Cause", s.Look().Cause, api.ErrFull)
	for _, keep := range []int{0, 5, 17, 18, 22} {
		c := d.Copy()
		c.Crash(api.Fate{Keeps: []api.Keep{{}, {N: keep}}})
		o, found := opened(t, c, params(64, 1))
		same(t, "P14.1: Found", found, api.Found{Lost: keep % 17})
		same(t, "P14.1: Next", o.Look().Next, 1+keep/17)
	}
	// Without one it does: the front is to be written anew.
	wantOpen(t, "a full disk, no Crash", d, params(64, 1), api.ErrFull)
	// A fresh log does, too.
	for most := range files {
		wantOpen(t, "no room", disk.New(most), params(64, 1), api.ErrFull)
	}
	opened(t, disk.New(files), params(64, 1))
}

func TestOpenOfADiskWithManyFiles(t *testing.T) {
	d := disk.New(1 << 20)
	for i := range 255 {
		d.Create(fmt.Sprint("f", i))
	}
	d.SyncDir()
	for range 2 {
		wantOpen(t, "no file is left for the catalog", d, params(64, 1), api.ErrMany)
		same(t, "P14.1: the segment is there", len(bytesOf(d, segName(1))), 32)
	}
	d.Remove("f0")
	s, found := opened(t, d, params(64, 1))
	same(t, "P14.1: Found", found, api.Found{Fresh: true, Removed: 1})
	wantAppend(t, "as long as there is no roll", s, 1, api.OK, []byte("a"))
	wantAppend(t, "a roll", s, 0, api.ErrFailed, []byte("b"))
	same(t, "P14.7: Cause", s.Look().Cause, api.ErrMany)
}
