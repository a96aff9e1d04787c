package store_test

import (
	"fmt"
	"math"
	"slices"
	"testing"

	"flume/api"
	"flume/disk"
	"flume/store"
)

// A nil store, and the zero one, are closed and tell zero values.
func TestNobody(t *testing.T) {
	for _, s := range []*store.Store{nil, {}} {
		for range 2 {
			for _, c := range []call{appends(), appends(nil), appends(texts("a", "b")...), appends(big(4097)), syncs, truncates(math.MinInt64), truncates(0), truncates(math.MaxInt64), closes} {
				lsn, err := c.on(s)
				same(t, "P14.8: "+c.String(), fmt.Sprint(lsn, err), fmt.Sprint(0, api.ErrClosed))
			}
			for _, lsn := range []int64{math.MinInt64, 0, 1, math.MaxInt64} {
				wantRead(t, "no store", s, lsn, api.ErrClosed)
			}
			same(t, "P14.8: Look", s.Look(), api.StoreLook{})
			same(t, "P14.8: Catalog", s.Catalog(), api.Catalog{})
		}
	}
}

// fill writes over a list, its spare room too.
func fill(b []byte, x byte) {
	b = b[:cap(b)]
	for i := range b {
		b[i] = x
	}
}

// What Append is handed is neither changed nor kept, its spare room neither.
func TestHandedIn(t *testing.T) {
	for _, segMax := range []int{64, 4096} {
		x, _ := openTwin(t, disk.New(1<<20), params(segMax, 1))
		room := []byte("abcdefgh")
		first, second := room[:3], room[4:6]
		list := [][]byte{first, second, room, nil}
		wantAppend(t, "three", x.s, 1, api.OK, list[:3]...)
		same(t, "P14.8: the bytes", string(room), "abcdefgh")
		same(t, "P14.8: the list", fmt.Sprintf("%s", list), "[abc ef abcdefgh ]")
		fill(room, '!')
		list[0], list[1], list[2] = nil, []byte("other"), nil
		same(t, "P14.3: Sync", x.s.Sync(), api.OK)
		wantRecords(t, "what was handed in is written over", x.s, 1, texts("abc", "ef", "abcdefgh")...)
		x.p.append(texts("abc", "ef", "abcdefgh"))
		x.p.sync()
		x.alike(t, "what was handed in is written over")
		x.do(t, appends(texts("more")...), syncs)
	}
}

// What was refused, or failed, is not changed either.
func TestHandedInInVain(t *testing.T) {
	d, s := fresh(t, texts("a")...)
	data := big(4097)
	list := [][]byte{data, data[:5], nil}
	s.Append(list...)
	arm(t, d, api.Fault{At: 1, Kind: api.FaultPanic})
	wantAppend(t, "failed", s, 0, api.ErrFailed, list[1:]...)
	wantAppend(t, "failed already", s, 0, api.ErrFailed, list[1:]...)
	s.Close()
	wantAppend(t, "closed", s, 0, api.ErrClosed, list[1:]...)
	same(t, "P14.8: what was handed in", fmt.Sprint(list), fmt.Sprint([][]byte{big(4097), big(4097)[:5], nil}))
}

// spoil writes over a catalog that was answered, and appends to it.
func spoil(c api.Catalog) {
	segs := c.Segs[:cap(c.Segs)]
	for i := range segs {
		segs[i] = api.Seg{Num: -1, Base: -1, Seed: 1, End: -1, Size: -1}
	}
	_ = append(c.Segs, api.Seg{Num: 77})
}

// What is answered is new memory, spare room too.
func TestNewMemory(t *testing.T) {
	x := seven(t)
	was := tell(x.d)
	all := x.s.Catalog()
	kept := slices.Clone(all.Segs)
	spoil(x.s.Catalog())
	same(t, "P14.8: another answer", all.Segs, kept)
	same(t, "P14.8: Catalog", x.s.Catalog(), all)
	var answers []api.Record
	for range 2 {
		for lsn := int64(1); lsn <= 7; lsn++ {
			rec, err := x.s.Read(lsn)
			same(t, "P14.4: Read", err, api.OK)
			answers = append(answers, rec)
		}
	}
	for i, rec := range answers[:7] {
		fill(rec.Data, '!')
		_ = append(rec.Data, "more"...)
		same(t, "P14.8: another answer", string(answers[7+i].Data), sevenDatas[i])
	}
	x.alike(t, "an answer was written over")
	same(t, "P14.8: the disk", tell(x.d), was)
	// Also behind calls that make another catalog, of a failed store and of a closed one.
	x.do(t, truncates(4))
	spoil(x.s.Catalog())
	x.do(t, appends(texts("h", "i", "j")...), syncs)
	spoil(x.s.Catalog())
	x.do(t, truncates(6))
	x.arm(t, api.Fault{At: 1, Kind: api.FaultIO})
	x.do(t, truncates(7))
	spoil(x.s.Catalog())
	x.alike(t, "failed")
	x.do(t, closes)
	spoil(x.s.Catalog())
	x.alike(t, "closed")
}
