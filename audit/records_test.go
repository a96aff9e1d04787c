package audit_test

import (
	"fmt"
	"maps"
	"math"
	"slices"
	"testing"

	"flume/api"
	"flume/audit"
)

// wantRecords wants those records, from the LSN base on.
func wantRecords(t *testing.T, what string, fs []api.File, from int64, most int, base int64, want ...string) {
	t.Helper()
	recs, err := audit.Records(fs, from, most)
	got, list := "", ""
	for _, rec := range recs {
		got += fmt.Sprintf("%d %q, ", rec.LSN, rec.Data)
	}
	for i, w := range want {
		list += fmt.Sprintf("%d %q, ", base+int64(i), w)
	}
	same(t, fmt.Sprintf("P15.3: Records(%d, %d): %s", from, most, what), fmt.Sprint(got, err), fmt.Sprint(list, api.OK))
}

func wantRange(t *testing.T, what string, fs []api.File, first, next int64) {
	t.Helper()
	f, n, err := audit.Range(fs)
	same(t, "P15.3: Range: "+what, fmt.Sprint(f, n, err), fmt.Sprint(first, next, api.OK))
}

// Each finding alone, and then with each other one that does no harm: 8, 9 and 10 do none.
func TestSound(t *testing.T) {
	same(t, "P15.2: a log", audit.Sound(laid(1, three())), true)
	same(t, "P15.2: a fresh log", audit.Sound(fresh()), true)
	same(t, "P15.2: no files", audit.Sound(nil), false)
	for code, l := range lones(t) {
		want := code >= 8 && code <= 10
		same(t, fmt.Sprint("P15.2: with ", code), audit.Sound(l.fs), want)
		fs := beside(l.fs, empty("segment-next", "zz", "", segName(99))...)
		same(t, fmt.Sprint("P15.2: with 8, 9 and ", code), audit.Sound(fs), want)
		open := last
		if code == 11 || code == 1 {
			open = one
		}
		fs = with(fs, open, bytesOf(t, fs, open), []byte("tail"))
		codes := map[int]bool{}
		for _, f := range audit.Check(fs) {
			codes[f.Code] = true
		}
		same(t, "codes found", codes[code] && codes[8] && codes[9] && (codes[10] || code <= 2), true)
		same(t, fmt.Sprint("P15.2: with 8, 9, 10 and ", code), audit.Sound(fs), want)
	}
}

// All pairs of findings that files can have at once: as sound as the worse of them.
func TestSoundOfPairs(t *testing.T) {
	for a, x := range lones(t) {
		for b, y := range lones(t) {
			if a <= b {
				continue
			}
			// The changed files of y over those of x.
			fs := slices.Clone(x.fs)
			base := laid(1, three())
			for _, f := range y.fs {
				i := slices.IndexFunc(base, func(g api.File) bool { return g.Name == f.Name })
				if i < 0 || string(base[i].Bytes) != string(f.Bytes) {
					fs = with(fs, f.Name, f.Bytes)
				}
			}
			p := plainly(fs)
			same(t, fmt.Sprint("P15.1: ", a, " and ", b), audit.Check(fs), p.found)
			same(t, fmt.Sprint("P15.2: ", a, " and ", b), audit.Sound(fs), p.sound)
		}
	}
}

func TestNotSound(t *testing.T) {
	for _, code := range slices.Sorted(maps.Keys(lones(t))) {
		if code >= 8 && code <= 10 {
			continue
		}
		fs := lones(t)[code].fs
		what := fmt.Sprint("P15.3: not sound: ", code)
		first, next, err := audit.Range(fs)
		same(t, what, fmt.Sprint(first, next, err), fmt.Sprint(0, 0, api.ErrCorrupt))
		for _, from := range []int64{math.MinInt64, 0, 1, 3, 99, math.MaxInt64} {
			for _, most := range []int{math.MinInt, -1, 0, 1, 2, 99, math.MaxInt} {
				recs, err := audit.Records(fs, from, most)
				same(t, what, fmt.Sprint(len(recs), err), fmt.Sprint(0, api.ErrCorrupt))
			}
		}
	}
}

func TestRecords(t *testing.T) {
	fs := laid(1, three())
	all := []string{"a", "bc", "def", "", "g"}
	wantRange(t, "three segments", fs, 1, 6)
	for _, from := range []int64{math.MinInt64, -1, 0, 1} {
		wantRecords(t, "from below or at First", fs, from, 99, 1, all...)
		wantRecords(t, "as many as there are", fs, from, 5, 1, all...)
		wantRecords(t, "one fewer", fs, from, 4, 1, all[:4]...)
		wantRecords(t, "one", fs, from, 1, 1, all[:1]...)
		wantRecords(t, "as many as there can be", fs, from, math.MaxInt, 1, all...)
		for _, most := range []int{0, -1, math.MinInt} {
			wantRecords(t, "none", fs, from, most, 1)
		}
	}
	for from := int64(1); from <= 5; from++ {
		for most := range 7 {
			end := min(int(from)-1+most, 5)
			wantRecords(t, "a stretch", fs, from, most, from, all[from-1:end]...)
		}
	}
	for _, from := range []int64{6, 7, 99, math.MaxInt64} {
		for _, most := range []int{0, 1, 99, math.MaxInt} {
			wantRecords(t, "behind the last", fs, from, most, 1)
		}
	}
	wantRecords(t, "the last", fs, 5, 1, 5, "g")
}

// The front was cut: into the first segment, to its end, and into an open one.
func TestRecordsBehindACut(t *testing.T) {
	parts := chained(4, 10, texts("a", "b", "c"), texts("d"), texts("e", "f"))
	all := []string{"a", "b", "c", "d", "e", "f"}
	for first := int64(10); first <= 13; first++ {
		fs := laid(first, parts)
		wantRange(t, "cut", fs, first, 16)
		for _, from := range []int64{math.MinInt64, 0, 1, 9, 10, first - 1, first} {
			if from <= first {
				wantRecords(t, "cut, from below", fs, from, 99, first, all[first-10:]...)
				wantRecords(t, "cut, two", fs, from, 2, first, all[first-10:first-8]...)
			}
		}
		for from := first; from <= 15; from++ {
			wantRecords(t, "cut, from above", fs, from, 99, from, all[from-10:]...)
		}
		wantRecords(t, "cut, from behind", fs, 16, 99, 0)
	}
	open := chained(4, 10, texts("a", "b", "c"))
	for first := int64(10); first <= 13; first++ {
		fs := laid(first, open)
		wantRange(t, "an open one, cut", fs, first, 13)
		wantRecords(t, "an open one, cut", fs, 1, 99, first, all[first-10:3]...)
		wantRecords(t, "an open one, cut, one", fs, 1, 1, first, all[first-10:max(min(first-9, 3), first-10)]...)
	}
}

// What does no harm is passed over: bytes behind the last frame, strays, other files of a name.
func TestRecordsBesideOthers(t *testing.T) {
	fs := laid(1, three())
	next, _ := plainFrame(three()[2].seed(), 7, []byte("not the next"))
	fs = with(fs, last, bytesOf(t, fs, last), next)
	fs = beside(fs, file(segName(4), chained(4, 6, texts("stray"))[0].bytes()), file("a", []byte("a")), file(one, nil), file("catalog", nil))
	wantRange(t, "beside others", fs, 1, 6)
	wantRecords(t, "beside others", fs, 0, 99, 1, "a", "bc", "def", "", "g")
	fs = with(fs, last, three()[2].bytes()[:32+16+16])
	wantRange(t, "the last one torn", fs, 1, 5)
	wantRecords(t, "the last one torn", fs, 0, 99, 1, "a", "bc", "def", "")
	fs = with(fs, last, three()[2].bytes()[:32])
	wantRange(t, "the open one without records", fs, 1, 4)
	wantRecords(t, "the open one without records", fs, 3, 99, 3, "def")
	wantRecords(t, "the open one without records", fs, 4, 99, 4)
}

func TestRecordsAtTheEdges(t *testing.T) {
	wantRange(t, "a fresh log", fresh(), 1, 1)
	wantRecords(t, "a fresh log", fresh(), 0, 99, 1)
	const top = math.MaxInt64
	fs := laid(top-3, chained(top-1, top-3, texts("a", "b"), texts("c")))
	wantRange(t, "the last LSN", fs, top-3, top)
	wantRecords(t, "the last LSN", fs, 0, 99, top-3, "a", "b", "c")
	wantRecords(t, "the last LSN", fs, top-1, 99, top-1, "c")
	wantRecords(t, "behind the last LSN", fs, top, 99, top)
	fs = laid(7, chained(1, 7, nil, nil, texts("a"), nil, texts("", "b"), nil))
	wantRange(t, "segments without records", fs, 7, 10)
	for from := int64(7); from <= 10; from++ {
		wantRecords(t, "segments without records", fs, from, 99, from, []string{"a", "", "b"}[from-7:]...)
	}
	fs = laid(1, chained(1, 1, [][]byte{big(4096)}, [][]byte{big(4095), big(4096), nil}))
	wantRange(t, "long records", fs, 1, 5)
	wantRecords(t, "long records", fs, 1, 9, 1, string(big(4096)), string(big(4095)), string(big(4096)), "")
}
