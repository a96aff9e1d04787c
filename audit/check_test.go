package audit_test

import (
	"fmt"
	"math"
	"slices"
	"strings"
	"testing"

	"flume/api"
	"flume/audit"
	"flume/disk"
	"flume/store"
)

// asked holds all four calls against what the findings mean, and against an audit by the chapter's words.
func asked(t *testing.T, what string, fs []api.File, want ...api.Finding) {
	t.Helper()
	same(t, "P15.1: Check: "+what, audit.Check(fs), want)
	p := plainly(fs)
	same(t, "the plain audit: "+what, p.found, want)
	sound := !slices.ContainsFunc(want, func(f api.Finding) bool { return !slices.Contains([]int{8, 9, 10}, f.Code) })
	same(t, "P15.2: Sound: "+what, audit.Sound(fs), sound)
	first, next, err := audit.Range(fs)
	recs, e := audit.Records(fs, math.MinInt64, math.MaxInt)
	if sound {
		same(t, "P15.3: Range: "+what, fmt.Sprint(first, next, err), fmt.Sprint(p.first, p.next, api.OK))
		same(t, "P15.3: Records: "+what, fmt.Sprint(recs, e), fmt.Sprint(p.records, api.OK))
	} else {
		same(t, "P15.3: Range: "+what, fmt.Sprint(first, next, err), fmt.Sprint(0, 0, api.ErrCorrupt))
		same(t, "P15.3: Records: "+what, fmt.Sprint(recs, e), fmt.Sprint([]api.Record{}, api.ErrCorrupt))
	}
}

// fresh is the files of a log without records.
func fresh() []api.File { return laid(1, chained(1, 1, nil)) }

// three is the parts of a log of three segments: sealed of two records, sealed of one, open of two.
func three() []part {
	return chained(1, 1, texts("a", "bc"), texts("def"), texts("", "g"))
}

var one, two, last = segName(1), segName(2), segName(3)

func TestExamples(t *testing.T) {
	d := disk.New(1 << 20)
	_, _, err := store.Open(d, api.Params{SegMax: 64, Base: 1})
	same(t, "Open", err, api.OK)
	same(t, "a fresh log, laid by hand", fresh(), d.Files())
	fs := d.Files()
	seg := bytesOf(t, fs, one)
	asked(t, "none", nil, found(1, "catalog", 0))
	asked(t, "an empty list", []api.File{}, found(1, "catalog", 0))
	asked(t, "a", empty("a"), found(1, "catalog", 0), found(9, "a", 0))
	asked(t, "a fresh log", fs)
	asked(t, "the segment's last byte gone", with(fs, one, seg[:31]), found(4, one, 0))
	asked(t, "a byte 0 more", with(fs, one, seg, []byte{0}), found(10, one, 1))
	asked(t, "segment-next", beside(fs, empty("segment-next")...), found(8, "segment-next", 0))
}

// lone is files of which just one thing is found.
type lone struct {
	fs   []api.File
	want api.Finding
}

// lones has files for each finding, by its code.
func lones(t *testing.T) map[int]lone {
	fs := laid(1, three())
	seg := bytesOf(t, fs, one)
	unchained := three()
	unchained[1].seg.Seed++
	unchained[1].seg.Size = len(unchained[1].bytes())
	unchained[2].seg.Seed = unchained[1].seed()
	return map[int]lone{
		1:  {without(fresh(), "catalog"), found(1, "catalog", 0)},
		2:  {with(fs, "catalog", nil), found(2, "catalog", int64(api.ErrShort))},
		3:  {without(fs, two), found(3, two, 0)},
		4:  {with(fs, two, nil), found(4, two, 0)},
		5:  {with(fs, one, seg, []byte{0}), found(5, one, int64(len(seg)+1))},
		6:  {with(fs, one, flip(seg, len(seg)-1)), found(6, one, 2)},
		7:  {laid(1, unchained), found(7, one, 0)},
		8:  {beside(fs, empty("catalog-next")...), found(8, "catalog-next", 0)},
		9:  {beside(fs, empty("other")...), found(9, "other", 0)},
		10: {with(fs, last, bytesOf(t, fs, last), []byte("xyz")), found(10, last, 3)},
		11: {laid(2, chained(1, 1, nil)), found(11, "catalog", 2)},
	}
}

func TestEachFindingAlone(t *testing.T) {
	for code, l := range lones(t) {
		want := findings(l.want)
		same(t, "the case's code", l.want.Code, code)
		// Behind 1 and 2 the segments are strays.
		for _, f := range l.fs {
			if code <= 2 && plainKind(f.Name) == 1 {
				want = append(want, found(8, f.Name, 0))
			}
		}
		asked(t, fmt.Sprint("the finding ", code), l.fs, want...)
	}
}

// Findings come in the order of the catalog's segments, each segment's by its code, then 10, then 8 and 9 by name, whatever the order of the files is.
func TestOrderOfFindings(t *testing.T) {
	parts := chained(7, 20, texts("a"), texts("b", "c"), texts("d"), texts("e", "f"), texts("g"), texts("h"), texts("i"))
	parts[5].seg.Seed++
	parts[5].seg.Size = len(parts[5].bytes())
	parts[6].seg.Seed = parts[5].seed()
	fs := laid(20, parts)
	n := func(i int) string { return segName(parts[i].seg.Num) }
	b := func(i int) []byte { return parts[i].bytes() }
	fs = without(fs, n(0))
	fs = with(fs, n(1), flip(b(1), 3))
	fs = with(fs, n(2), b(2), []byte{1, 2})
	fs = with(fs, n(3), b(3)[:len(b(3))-1])
	fs = with(fs, n(6), b(6), big(40))
	fs = beside(fs, empty("zz", "segment-next", "seg-x", segName(6), segName(14), "catalog-next", "b", "B", "", "catalog.old")...)
	want := findings(
		found(3, n(0), 0), found(4, n(1), 0), found(5, n(2), int64(len(b(2))+2)),
		found(5, n(3), int64(len(b(3))-1)), found(6, n(3), 25), found(7, n(4), 0), found(10, n(6), 40),
		found(9, "", 0), found(9, "B", 0), found(9, "b", 0), found(8, "catalog-next", 0), found(9, "catalog.old", 0),
		found(8, segName(6), 0), found(8, segName(14), 0), found(9, "seg-x", 0), found(8, "segment-next", 0), found(9, "zz", 0),
	)
	asked(t, "all of them", fs, want...)
	slices.Reverse(fs)
	asked(t, "all of them, from the end", fs, want...)
	// 11 comes behind 10 and ahead of 8 and 9.
	fs = laid(9, chained(1, 5, texts("a")))
	fs = beside(with(fs, one, bytesOf(t, fs, one), []byte("?")), empty("segment-next", "a")...)
	asked(t, "10, 11, 9, 8", fs, found(10, one, 1), found(11, "catalog", 9), found(9, "a", 0), found(8, "segment-next", 0))
}

// Without a catalog that can be read only 8 and 9 follow, of each file of the kinds 1 and 3, 0 and 4.
func TestWithoutACatalog(t *testing.T) {
	fs := without(laid(1, three()), "catalog")
	fs = with(fs, two, nil)
	fs = beside(fs, empty("segment-next", "zz", "catalog-next", "-", segName(math.MaxInt64), "")...)
	follow := findings(
		found(9, "", 0), found(9, "-", 0), found(8, "catalog-next", 0), found(8, one, 0), found(8, two, 0), found(8, last, 0),
		found(8, segName(math.MaxInt64), 0), found(8, "segment-next", 0), found(9, "zz", 0),
	)
	asked(t, "no catalog", fs, slices.Concat(findings(found(1, "catalog", 0)), follow)...)
	good := plainCatalog(catalogOf(1, three()))
	for _, c := range []struct {
		what string
		b    []byte
		err  api.Errno
	}{
		{"no byte", nil, api.ErrShort},
		{"7 bytes", good[:7], api.ErrShort},
		{"another title", flip(good, 0), api.ErrForm},
		{"a bit turned", flip(good, 9), api.ErrSum},
		{"a byte less", good[:len(good)-1], api.ErrSum},
		{"a byte more", append(slices.Clone(good), 0), api.ErrSum},
		{"it ends within", summed(good[:len(good)-6]), api.ErrShort},
		{"bytes are left", summed(append(slices.Clone(good[:len(good)-4]), 0)), api.ErrForm},
		{"it may not be: no segment", plainCatalog(api.Catalog{Gen: 1, First: 1}), api.ErrForm},
		{"it may not be: First below", plainCatalog(catalogOf(1, chained(1, 2, nil))), api.ErrForm},
		{"it may not be: First above", plainCatalog(catalogOf(4, three())), api.ErrForm},
		{"zeros", make([]byte, 20), api.ErrForm},
	} {
		asked(t, c.what, beside(fs, file("catalog", c.b)), slices.Concat(findings(found(2, "catalog", int64(c.err))), follow)...)
		asked(t, c.what+", alone", []api.File{file("catalog", c.b)}, found(2, "catalog", int64(c.err)))
	}
}

// Of several files with one name the first counts.
func TestOneName(t *testing.T) {
	fs := laid(1, three())
	asked(t, "empty ones behind", beside(fs, empty("catalog", one, two, last, "catalog", one)...))
	asked(t, "a catalog ahead", beside(empty("catalog"), fs...), found(2, "catalog", 2), found(8, one, 0), found(8, two, 0), found(8, last, 0))
	asked(t, "a sealed one ahead", beside(empty(one), fs...), found(4, one, 0))
	asked(t, "an open one ahead", beside([]api.File{file(last, bytesOf(t, fs, last)[:40])}, fs...), found(10, last, 8))
	asked(t, "another log's catalog behind", beside(fs, laid(9, chained(5, 9, nil))...), found(8, segName(5), 0))
	asked(t, "others", beside(fs, empty("a", "", "segment-next", segName(4), "a", "", "segment-next", segName(4), "")...),
		found(9, "", 0), found(9, "a", 0), found(8, segName(4), 0), found(8, "segment-next", 0))
	// Names that differ in a byte, or are no text, are several.
	asked(t, "bytes that are no text", beside(fs, empty("\xff", "\xfe", "\xff", "\x00")...), found(9, "\x00", 0), found(9, "\xfe", 0), found(9, "\xff", 0))
}

// Files of each kind, by their names.
func TestKinds(t *testing.T) {
	long := strings.Repeat("a", 64)
	for name, code := range map[string]int{
		"": 9, "-": 9, "-a": 9, "a-": 9, ".a": 9, "A": 9, "Catalog": 9, "catalog ": 9, "a/b": 9, "é": 9, long + "a": 9, "catalog\n": 9, strings.Repeat("seg", 999): 9,
		"a": 9, "0": 9, "a.b": 9, long: 9, "seg-1.log": 9, segName(0): 9, "seg-8000000000000000.log": 9, "seg-00000000000000FF.log": 9, "seg-000000000000000a.logs": 9, "catalog-nex": 9, "catalognext": 9, "segment": 9, "segment-next-": 9, "segment-next.log": 9,
		"catalog-next": 8, "segment-next": 8,
		segName(4): 8, segName(255): 8, segName(math.MaxInt64): 8,
	} {
		for _, b := range [][]byte{nil, {}, []byte("abc"), plainCatalog(catalogOf(1, three())), three()[0].bytes()} {
			asked(t, "beside a log", beside(laid(1, three()), file(name, b)), found(code, name, 0))
			asked(t, "ahead of a log", beside([]api.File{file(name, b)}, laid(1, three())...), found(code, name, 0))
			asked(t, "alone", []api.File{file(name, b)}, found(1, "catalog", 0), found(code, name, 0))
		}
	}
}

// Segments below and above the catalog's are strays, even if they would go with it.
func TestStraySegments(t *testing.T) {
	all := chained(5, 1, texts("a"), texts("b"), texts("c"), texts("d"))
	fs := laid(2, all[1:3])
	fs = with(fs, "catalog", plainCatalog(api.Catalog{Gen: 9, First: 2, Segs: []api.Seg{all[1].seg, {Num: 7, Base: 3, Seed: all[2].seg.Seed}}}))
	asked(t, "two segments", fs)
	fs = beside(fs, file(segName(8), all[3].bytes()), file(segName(5), all[0].bytes()))
	asked(t, "and two more", fs, found(8, segName(5), 0), found(8, segName(8), 0))
}

func TestMissingSegments(t *testing.T) {
	fs := laid(1, three())
	asked(t, "the first", without(fs, one), found(3, one, 0))
	asked(t, "the open one", without(fs, last), found(3, last, 0))
	asked(t, "all", fs[:1], found(3, one, 0), found(3, two, 0), found(3, last, 0))
	asked(t, "all but the open one", without(without(fs, one), two), found(3, one, 0), found(3, two, 0))
}

// A head is whole, and says what the catalog says.
func TestHeads(t *testing.T) {
	for i, p := range three() {
		fs := laid(1, three())
		n, b := segName(p.seg.Num), p.bytes()
		for size := range 32 {
			asked(t, fmt.Sprint(size, " bytes"), with(fs, n, b[:size]), found(4, n, 0))
		}
		for at := range 32 {
			asked(t, fmt.Sprint("another byte ", at), with(fs, n, flip(b, at)), found(4, n, 0))
		}
		for _, h := range []api.Head{
			{Num: p.seg.Num + 1, Base: p.seg.Base, Seed: p.seg.Seed}, {Num: math.MaxInt64, Base: p.seg.Base, Seed: p.seg.Seed},
			{Num: p.seg.Num, Base: p.seg.Base + 1, Seed: p.seg.Seed}, {Num: p.seg.Num, Base: math.MaxInt64, Seed: p.seg.Seed},
			{Num: p.seg.Num, Base: p.seg.Base, Seed: p.seg.Seed + 1},
		} {
			other, _ := plainFile(h, p.datas...)
			asked(t, fmt.Sprintf("another head %+v", h), with(fs, n, other), found(4, n, 0))
			asked(t, "another head, and more bytes", with(fs, n, other, big(50)), found(4, n, 0))
		}
		asked(t, "a catalog", with(fs, n, plainCatalog(catalogOf(1, three()))), found(4, n, 0))
		asked(t, "another segment", with(fs, n, three()[(i+1)%3].bytes()), found(4, n, 0))
		asked(t, "a byte ahead", with(fs, n, []byte{0}, b), found(4, n, 0))
	}
}

func TestManySegments(t *testing.T) {
	var lists [][][]byte
	for i := range 64 {
		lists = append(lists, texts(fmt.Sprint("record ", i)))
	}
	parts := chained(100, 1, lists...)
	asked(t, "64 segments", laid(1, parts))
	asked(t, "64 segments, cut", laid(2, parts))
	var want []api.Finding
	for i, p := range parts[:63] {
		if i%3 == 0 {
			want = append(want, found(6, segName(p.seg.Num), p.seg.Base))
		}
	}
	fs := laid(1, parts)
	for i := range fs {
		if i%3 == 1 && i < 64 {
			fs[i].Bytes = flip(fs[i].Bytes, 33)
		}
	}
	asked(t, "64 segments, some broken", fs, want...)
	asked(t, "64 segments missing", fs[:1], func() (l []api.Finding) {
		for _, p := range parts {
			l = append(l, found(3, segName(p.seg.Num), 0))
		}
		return l
	}()...)
}
