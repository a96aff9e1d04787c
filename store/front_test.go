package store_test

import (
	"fmt"
	"math"
	"strings"
	"testing"

	"flume/api"
	"flume/disk"
	"flume/store"
)

// sevenDatas are records of which two go to a segment of 66 bytes: 1 2, 3 4, 5 6, 7.
var sevenDatas = []string{"a", "b", "c", "d", "e", "f", "g"}

func seven(t *testing.T) *twin {
	t.Helper()
	x, _ := openTwin(t, disk.New(1<<20), params(66, 1))
	x.do(t, appends(texts(sevenDatas...)...), syncs)
	same(t, "P14.2: the segments", x.s.Look().Segs, 4)
	return x
}

// TruncateFront to each LSN, and from there to each further one.
func TestTruncateFront(t *testing.T) {
	for first := int64(2); first <= 8; first++ {
		for second := first; second <= 8; second++ {
			x := seven(t)
			for i, lsn := range []int64{first, second} {
				if i == 1 && second == first {
					refusing(t, "P14.5: of First", x.d, x.s, truncates(lsn), api.OK)
					continue
				}
				was := x.s.Look()
				same(t, "P14.5: TruncateFront", x.do(t, truncates(lsn)), api.OK)
				gone := int((lsn - 1) / 2) // Segments that end at 3, 5, 7; the open one stays.
				l := api.StoreLook{First: lsn, Next: 8, Durable: 8, Gen: was.Gen + 1, Segs: 4 - gone}
				same(t, fmt.Sprint("P14.7: Look behind ", lsn), x.s.Look(), l)
				same(t, fmt.Sprint("P14.5: the files behind ", lsn), len(x.d.Files()), 1+4-gone)
				same(t, "P14.5: the first that is there", strings.HasPrefix(namesOf(x.d), "catalog "+segName(int64(1+gone))), true)
				allLasts(t, "P14.5: TruncateFront", x.d)
				wantRecords(t, fmt.Sprint("behind ", lsn), x.s, lsn, texts(sevenDatas[lsn-1:]...)...)
				wantOpenAgain(t, fmt.Sprint("behind ", lsn), x.d, params(66, 1), x.s)
			}
		}
	}
}

func TestTruncateFrontOperations(t *testing.T) {
	ahead := []call{appends(texts(sevenDatas...)...), syncs}
	for lsn, want := range map[int64]string{
		math.MinInt64: "", 0: "", 1: "", 2: catalogOps, 3: catalogOps + " Remove SyncDir", 4: catalogOps + " Remove SyncDir", 5: catalogOps + " Remove Remove SyncDir",
		7: catalogOps + " Remove Remove Remove SyncDir", 8: catalogOps + " Remove Remove Remove SyncDir", 9: "", math.MaxInt64: "",
	} {
		same(t, fmt.Sprint("P14.5: the operations of ", lsn), calling(t, disk.New(1<<20), params(66, 1), ahead, truncates(lsn)), want)
	}
	// The segments go in their order: the Remove of each fails in its turn.
	for i := range int64(3) {
		x := seven(t)
		x.arm(t, api.Fault{At: 6 + i, Kind: api.FaultIO})
		same(t, "P14.5: a Remove fails", x.do(t, truncates(7)), api.ErrFailed)
		same(t, "P14.5: the files", strings.Fields(namesOf(x.d))[1], segName(1+i))
		same(t, "P14.7: Look", x.s.Look(), api.StoreLook{First: 7, Next: 8, Durable: 8, Gen: 5, Segs: 1, Failed: true, Cause: api.ErrIO})
		wantRecords(t, "a Remove failed", x.s, 7, []byte("g"))
	}
}

func TestTruncateFrontRefused(t *testing.T) {
	x := seven(t)
	x.do(t, appends(texts("h")...)) // It does not last: 8 is Durable, 9 is Next.
	arm(t, x.d, api.Fault{At: 1, Kind: api.FaultIO})
	for _, lsn := range []int64{1, 0, -1, math.MinInt64} {
		refusing(t, "P14.5: First or below", x.d, x.s, truncates(lsn), api.OK)
	}
	for _, lsn := range []int64{9, 10, math.MaxInt64} {
		refusing(t, "P14.5: above Durable", x.d, x.s, truncates(lsn), api.ErrBounds)
	}
	arm(t, x.d)
	same(t, "P14.5: Durable", x.s.TruncateFront(8), api.OK)
	same(t, "P14.7: Look", x.s.Look(), api.StoreLook{First: 8, Next: 9, Durable: 8, Gen: 5, Segs: 1})
	wantRecords(t, "nothing lasts from First on", x.s, 8)
	refusing(t, "P14.5: above Durable, First is Durable", x.d, x.s, truncates(9), api.ErrBounds)
	same(t, "P14.3: Sync", x.s.Sync(), api.OK)
	wantRecords(t, "it lasts", x.s, 8, []byte("h"))
}

// The front comes to the end of the open segment; the log goes on behind it.
func TestTruncateFrontOfAll(t *testing.T) {
	for _, segMax := range []int{64, 4096} {
		x, _ := openTwin(t, disk.New(1<<20), params(segMax, 1))
		refusing(t, "P14.5: an empty log", x.d, x.s, truncates(2), api.ErrBounds)
		for i := range int64(5) {
			same(t, "P14.2: Append", x.do(t, appends(texts("x", "y")...)), api.OK)
			same(t, "P14.5: all that lasts", x.do(t, syncs, truncates(2*i+3)), api.OK)
			wantRecords(t, "none", x.s, 2*i+3)
			wantOpenAgain(t, "none", x.d, params(segMax, 1), x.s)
		}
		same(t, "P14.5: one segment is left", x.s.Look().Segs, 1)
	}
}

func TestTruncateFrontAtTheLastGen(t *testing.T) {
	d := laid(t, math.MaxInt64-1, 11, threeParts())
	x, _ := openTwin(t, d, params(64, 1))
	same(t, "P14.5: the last Gen", x.do(t, truncates(12)), api.OK)
	same(t, "P14.7: Gen", x.s.Look().Gen, math.MaxInt64)
	for lsn := int64(13); lsn <= 16; lsn++ {
		refusing(t, "P14.5: no Gen is left", d, x.s, truncates(lsn), api.ErrMany)
	}
	refusing(t, "P14.5: above Durable", d, x.s, truncates(17), api.ErrBounds)
	refusing(t, "P14.5: First", d, x.s, truncates(12), api.OK)
	same(t, "P14.2: the store has not failed", x.s.Look().Failed, false)
	refusing(t, "P14.2: a roll", d, x.s, appends(big(64)), api.ErrMany)
	wantRecords(t, "the last Gen", x.s, 12, texts(threeDatas[2:]...)...)
	wantOpenAgain(t, "the last Gen", d, params(64, 1), x.s)
}

func TestSync(t *testing.T) {
	x, _ := openTwin(t, disk.New(1<<20), params(200, 1))
	arm(t, x.d, api.Fault{At: 1, Kind: api.FaultIO})
	refusing(t, "P14.3: nothing to sync", x.d, x.s, syncs, api.OK)
	arm(t, x.d)
	x.do(t, appends(texts("a")...))
	same(t, "P14.2: it need not last yet", fmt.Sprint(x.s.Look().Durable, x.d.Tails(0)[1].N), "1 17")
	wantRead(t, "it does not last yet", x.s, 1, api.ErrNotYet)
	same(t, "P14.3: Sync", x.do(t, syncs), api.OK)
	same(t, "P14.7: Look", x.s.Look(), api.StoreLook{First: 1, Next: 2, Durable: 2, Gen: 1, Segs: 1})
	allLasts(t, "P14.3: Sync", x.d)
	refusing(t, "P14.3: nothing to sync", x.d, x.s, syncs, api.OK)
	x.do(t, appends(texts("b")...), appends(texts("c")...), syncs)
	wantRecords(t, "synced", x.s, 1, texts("a", "b", "c")...)
	ahead := []call{appends(texts("a")...), appends(texts("b", "c")...)}
	same(t, "P14.3: the operations", calling(t, disk.New(1<<20), params(200, 1), ahead, syncs), "Sync")
}

// A roll makes last what stands in the segment that is sealed.
func TestDurableBehindARoll(t *testing.T) {
	x, _ := openTwin(t, disk.New(1<<20), params(66, 1))
	for i, want := range []struct{ durable, base int64 }{{1, 1}, {1, 1}, {3, 3}, {3, 3}, {5, 5}} {
		x.do(t, appends([]byte("x")))
		same(t, fmt.Sprint("P14.3: Durable behind ", i+1), x.s.Look().Durable, want.durable)
		segs := x.s.Catalog().Segs
		same(t, "P14.3: the open segment's Base", segs[len(segs)-1].Base, want.base)
	}
	wantRecords(t, "behind rolls", x.s, 1, texts("x", "x", "x", "x")...)
}

func TestClose(t *testing.T) {
	for _, lasts := range []bool{true, false} {
		x, _ := openTwin(t, disk.New(1<<20), params(64, 1))
		x.do(t, appends(texts("a", "b")...), truncates(2))
		ops := "Sync"
		if lasts {
			x.do(t, syncs)
			ops = ""
		}
		was, look := x.d.Count(), x.s.Look()
		same(t, "P14.6: Close", x.do(t, closes), api.OK)
		same(t, "P14.6: the operations", kinds(was, x.d.Count()), ops)
		look.Durable, look.Closed = 3, true
		same(t, "P14.7: Look", x.s.Look(), look)
		checkClosed(t, x)
		allLasts(t, "P14.6: Close", x.d)
		s, found := opened(t, x.d, params(64, 1))
		same(t, "P14.1: Found", found, api.Found{})
		wantRecords(t, "closed and opened", s, 2, []byte("b"))
	}
}

// checkClosed asks that each call of a closed store is refused, and that Look and Catalog tell what they told.
func checkClosed(t *testing.T, x *twin) {
	t.Helper()
	for range 2 {
		for _, c := range []call{closes, syncs, appends(texts("n")...), appends(), appends(big(4097)), truncates(math.MinInt64), truncates(2), truncates(3), truncates(math.MaxInt64)} {
			refusing(t, "P14.6: closed", x.d, x.s, c, api.ErrClosed)
			x.do(t, c)
		}
		for _, lsn := range []int64{math.MinInt64, 0, 1, 2, 3, math.MaxInt64} {
			wantRead(t, "closed", x.s, lsn, api.ErrClosed)
		}
	}
}

// Read tells what is wrong with the disk, or with what stands there.
func TestReadOfASpoiltDisk(t *testing.T) {
	x := seven(t)
	d, s := x.d, x.s
	b := bytesOf(d, segName(2))
	d.Cut(segName(2), 40)
	wantRead(t, "a segment that was cut beneath", s, 3, api.ErrBounds)
	b[len(b)-1] ^= 1
	d.Append(segName(2), b[40:])
	rec, err := s.Read(3)
	same(t, "P14.4: ahead of what is spoilt", fmt.Sprintf("%d %s %d", rec.LSN, rec.Data, err), "3 c 0")
	wantRead(t, "a spoilt record", s, 4, api.ErrCorrupt)
	d.Remove(segName(3))
	wantRead(t, "a segment that is gone", s, 5, api.ErrNone)
	wantRead(t, "below First", s, 0, api.ErrTruncated)
	arm(t, d, api.Fault{At: 1, Kind: api.FaultPower})
	same(t, "the fault", d.SyncDir(), api.ErrDown)
	for lsn := int64(1); lsn <= 7; lsn++ {
		wantRead(t, "a disk that is down", s, lsn, api.ErrDown)
	}
	wantRead(t, "down, below First", s, 0, api.ErrTruncated)
	wantRead(t, "down, not lasting", s, 8, api.ErrNotYet)
	same(t, "P14.7: to read makes no store fail", s.Look().Failed, false)
	s.Close()
	wantRead(t, "closed", s, 1, api.ErrClosed)
}

// Read is no operation, and none is done for it.
func TestReadIsNoOperation(t *testing.T) {
	x := seven(t)
	arm(t, x.d, api.Fault{At: 1, Kind: api.FaultPanic})
	was := tell(x.d)
	wantRecords(t, "a fault is armed", x.s, 1, texts(sevenDatas...)...)
	x.s.Look()
	x.s.Catalog()
	same(t, "P14.4, P14.7: no operation", tell(x.d), was)
}

// Two stores on two disks know nothing of each other.
func TestTwoStores(t *testing.T) {
	d, s := fresh(t, texts("a", "b")...)
	e, o := fresh(t, texts("c")...)
	was := tell(e)
	s.Append(texts("x")...)
	arm(t, d, api.Fault{At: 1, Kind: api.FaultIO})
	same(t, "P14.3: Sync", s.Sync(), api.ErrFailed)
	same(t, "the other disk", tell(e), was)
	same(t, "the other store", o.Look(), api.StoreLook{First: 1, Next: 2, Durable: 2, Gen: 1, Segs: 1})
	wantRecords(t, "the other store", o, 1, []byte("c"))
	// Two on one disk: the second one finds what the first one left.
	p, found, err := store.Open(e, params(64, 1))
	same(t, "P14.1: Open", fmt.Sprint(found, err), fmt.Sprint(api.Found{}, 0))
	wantAppend(t, "the second one", p, 2, api.OK, texts("d")...)
	same(t, "the first one", o.Look().Next, 2)
}
