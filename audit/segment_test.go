package audit_test

import (
	"fmt"
	"math"
	"slices"
	"testing"

	"flume/api"
)

// said is the files of a log whose catalog says that of the segment i.
func said(parts []part, i int, change func(g *api.Seg)) []api.File {
	fs := laid(parts[0].seg.Base, parts)
	c := catalogOf(parts[0].seg.Base, parts)
	change(&c.Segs[i])
	return with(fs, "catalog", plainCatalog(c))
}

func TestSealedBytes(t *testing.T) {
	fs := laid(1, three())
	b := bytesOf(t, fs, one)
	size := int64(len(b)) // head, a frame of 17 bytes, one of 18
	more, _ := plainFrame(three()[0].seed(), 3, []byte("more"))
	asked(t, "a byte more", with(fs, one, b, []byte{0}), found(5, one, size+1))
	asked(t, "many bytes more", with(fs, one, b, big(5000)), found(5, one, size+5000))
	asked(t, "a byte less", with(fs, one, b[:size-1]), found(5, one, size-1), found(6, one, 2))
	asked(t, "a frame less", with(fs, one, b[:49]), found(5, one, 49), found(6, one, 2))
	asked(t, "no frame", with(fs, one, b[:32]), found(5, one, 32), found(6, one, 1))
	asked(t, "a frame more", with(fs, one, b, more), found(5, one, size+20), found(6, one, 4))
	asked(t, "a frame less, with the same number of bytes", with(fs, one, b[:49], make([]byte, 18)), found(6, one, 2))
	asked(t, "no frame, with the same number of bytes", with(fs, one, b[:32], make([]byte, 35)), found(6, one, 1))
	asked(t, "a frame twice", with(fs, one, b[:49], b[32:49], []byte{0}), found(6, one, 2))
	for at := 32; at < len(b); at++ {
		next := int64(1)
		if at >= 49 {
			next = 2
		}
		asked(t, fmt.Sprint("another byte ", at), with(fs, one, flip(b, at)), found(6, one, next))
	}
}

// All the records are there, but head and frames are not just Size bytes; or they are, and are other records.
func TestSealedFrames(t *testing.T) {
	parts := three()
	shorter, _ := plainFile(parts[0].head(), texts("a", "b")...)
	other, _ := plainFile(parts[0].head(), texts("a", "bd")...)
	joined, _ := plainFile(parts[0].head(), texts("abcdefghijklmnopqrs")...)
	torn, _ := plainFile(parts[0].head(), texts("", "bcd")...)
	fs := laid(1, parts)
	same(t, "as many bytes", []int{len(shorter) + 1, len(other), len(joined), len(torn)}, []int{67, 67, 67, 67})
	asked(t, "a shorter record, a byte behind it", with(fs, one, shorter, []byte{0}), found(6, one, 3))
	asked(t, "a shorter record", with(fs, one, shorter), found(5, one, 66), found(6, one, 3))
	asked(t, "another record", with(fs, one, other), found(7, one, 0))
	asked(t, "another split", with(fs, one, torn), found(7, one, 0))
	asked(t, "one record as long as two", with(fs, one, joined), found(6, one, 2))
	asked(t, "another record, and a byte", with(fs, one, other, []byte{0}), found(5, one, 68))
}

// What the catalog says of a sealed segment is not so.
func TestSealedAsTheCatalogSays(t *testing.T) {
	for i, n := range []string{one, two} {
		size, end := int64(three()[i].seg.Size), three()[i].seg.End
		for _, by := range []int{-1, 1, 1000} {
			fs := said(three(), i, func(g *api.Seg) { g.Size += by })
			asked(t, fmt.Sprint("another Size: ", by), fs, found(5, n, size), found(6, n, end))
		}
		fs := said(three(), i, func(g *api.Seg) { g.Size = math.MaxInt32 })
		asked(t, "the greatest Size", fs, found(5, n, size), found(6, n, end))
		fs = said(three(), i, func(g *api.Seg) { g.Size += 3 })
		asked(t, "another Size, as many bytes", with(fs, n, three()[i].bytes(), []byte("abc")), found(6, n, end))
		fs = said(three(), i, func(g *api.Seg) { g.Seed++ })
		want := findings(found(4, n, 0))
		if i == 1 {
			want = findings(found(7, one, 0), found(4, two, 0))
		}
		asked(t, "another Seed", fs, want...)
	}
	// Another End is another Base of the next one.
	fs := said(three(), 0, func(g *api.Seg) { g.End++ })
	asked(t, "a catalog that may not be", fs, found(2, "catalog", int64(api.ErrForm)), found(8, one, 0), found(8, two, 0), found(8, last, 0))
	for _, by := range []int64{-1, 1, 9} {
		parts := three()
		c := catalogOf(1, parts)
		c.Segs[0].End += by
		c.Segs[1].Base += by
		fs := with(laid(1, parts), "catalog", plainCatalog(c))
		if c.Segs[1].Base <= c.Segs[1].End {
			asked(t, fmt.Sprint("another End: ", by), fs, found(6, one, 3), found(4, two, 0))
		}
	}
}

// 7 is found where neither 5 nor 6 is, against the catalog's word of the next one, be that there or not.
func TestSeeds(t *testing.T) {
	parts := three()
	for i := range 2 {
		next := i + 1
		odd := slices.Clone(parts)
		odd[next].seg.Seed ^= 1 << 31
		for j := next; j < 2; j++ {
			odd[j+1].seg.Seed = odd[j].seed()
		}
		n, fs := segName(odd[i].seg.Num), laid(1, odd)
		b := bytesOf(t, fs, n)
		asked(t, "another seed", fs, found(7, n, 0))
		asked(t, "another seed, the next one missing", without(fs, segName(odd[next].seg.Num)), found(7, n, 0), found(3, segName(odd[next].seg.Num), 0))
		asked(t, "another seed, the next one has the old one", with(fs, segName(odd[next].seg.Num), parts[next].bytes()), found(7, n, 0), found(4, segName(odd[next].seg.Num), 0))
		asked(t, "5 is found", with(fs, n, b, []byte{0}), found(5, n, int64(len(b)+1)))
		asked(t, "6 is found", with(fs, n, flip(b, len(b)-1)), found(6, n, odd[i].seg.End-1))
		asked(t, "5 and 6 are found", with(fs, n, b[:len(b)-1]), found(5, n, int64(len(b)-1)), found(6, n, odd[i].seg.End-1))
		asked(t, "4 is found", with(fs, n, b[:20]), found(4, n, 0))
		asked(t, "3 is found", without(fs, n), found(3, n, 0))
		// The catalog's word is right, the file's is not.
		fs = with(laid(1, parts), segName(odd[next].seg.Num), odd[next].bytes())
		asked(t, "the next one's head has another seed", fs, found(4, segName(odd[next].seg.Num), 0))
	}
}

// A sealed segment may be without records: its seed is its head's sum.
func TestSealedWithoutRecords(t *testing.T) {
	parts := chained(3, 7, nil, nil, texts("a"))
	asked(t, "two without records", laid(7, parts))
	n := segName(3)
	asked(t, "with a byte", with(laid(7, parts), n, parts[0].bytes(), []byte{1}), found(5, n, 33))
	f, _ := plainFrame(parts[0].seed(), 7, nil)
	asked(t, "with a frame", with(laid(7, parts), n, parts[0].bytes(), f), found(5, n, 48), found(6, n, 8))
	parts[1].seg.Seed = 0
	parts[2].seg.Seed = parts[1].seed()
	asked(t, "with another seed", laid(7, parts), found(7, n, 0))
}

func TestOpenSegment(t *testing.T) {
	for _, datas := range [][][]byte{nil, texts("a"), texts("", "b", "cde")} {
		p := chained(1, 5, datas)
		fs := laid(5, p)
		b, next := p[0].bytes(), 5+int64(len(datas))
		asked(t, "whole", fs)
		behind, sum := plainFrame(p[0].seed(), next, []byte("data"))
		after, _ := plainFrame(sum, next+1, []byte("data"))
		otherLSN, _ := plainFrame(p[0].seed(), next+1, []byte("data"))
		otherSeed, _ := plainFrame(p[0].seed()+1, next, []byte("data"))
		for _, junk := range [][]byte{{0}, {255}, make([]byte, 16), make([]byte, 5000), big(700), behind[:15], behind[:19], flip(behind, 17), flip(behind, 5), slices.Concat(flip(behind, 16), after), otherLSN, otherSeed, after} {
			asked(t, fmt.Sprintf("behind it %x", junk), with(fs, one, b, junk), found(10, one, int64(len(junk))))
		}
		asked(t, "a frame behind it", with(fs, one, b, behind))
		asked(t, "two frames behind it, and a byte", with(fs, one, b, behind, after, []byte{7}), found(10, one, 1))
		asked(t, "two frames behind it, the second torn", with(fs, one, b, behind, flip(after, len(after)-1)), found(10, one, int64(len(after))))
	}
	// The open one behind sealed ones; its records may be as long as they like.
	p := chained(1, 1, texts("a"), [][]byte{big(4096), nil, big(4096)})
	asked(t, "long records", laid(1, p))
	asked(t, "long records, the last a byte short", with(laid(1, p), two, p[1].bytes()[:32+4112+16+4111]), found(10, two, 4111))
}

// 11: First is above what the open segment's scan wants; there is none but it then.
func TestFirstAbove(t *testing.T) {
	p := chained(1, 5, texts("a", "b"))
	b := p[0].bytes()
	for first := int64(5); first <= 7; first++ {
		asked(t, "within", laid(first, p))
	}
	for _, first := range []int64{8, 9, 1000, math.MaxInt64} {
		fs := laid(first, p)
		asked(t, "above", fs, found(11, "catalog", first))
		asked(t, "above, with bytes behind", with(fs, one, b, []byte("abc")), found(10, one, 3), found(11, "catalog", first))
		asked(t, "above, the segment missing", without(fs, one), found(3, one, 0))
		asked(t, "above, no head", with(fs, one, b[:31]), found(4, one, 0))
		asked(t, "above, another head", with(fs, one, chained(1, 4, texts("a", "b"))[0].bytes()), found(4, one, 0))
		asked(t, "above, a stray", beside(fs, empty("a")...), found(11, "catalog", first), found(9, "a", 0))
	}
	// The records up to First are there, but one of them is torn.
	fs := laid(7, p)
	asked(t, "the last record torn", with(fs, one, flip(b, 49)), found(10, one, 17), found(11, "catalog", 7))
	asked(t, "the first record torn", with(fs, one, flip(b, 32)), found(10, one, 34), found(11, "catalog", 7))
	fs = laid(6, p)
	asked(t, "the last record torn, First ahead of it", with(fs, one, flip(b, 49)), found(10, one, 17))
	asked(t, "no record, First at Base", with(laid(5, p), one, b[:32]))
}

// The greatest numbers that there are.
func TestGreatest(t *testing.T) {
	const top = math.MaxInt64
	p := chained(top, top-1, texts("the last record"))
	n := segName(top)
	asked(t, "the last LSN", laid(top-1, p))
	asked(t, "the last LSN, cut", laid(top, p))
	beyond, _ := plainFrame(p[0].seed(), top, nil)
	asked(t, "a frame beyond", with(laid(top, p), n, p[0].bytes(), beyond), found(10, n, 16))
	asked(t, "First beyond", with(laid(top, p), n, p[0].bytes()[:40]), found(10, n, 8), found(11, "catalog", top))
	asked(t, "a segment of no record", laid(top, chained(top, top, nil)))
	p = chained(top-1, top-3, texts("a", "b", "c"), nil)
	asked(t, "behind a sealed one", laid(top-2, p))
	asked(t, "behind a torn one", with(laid(top-2, p), segName(top-1), flip(p[0].bytes(), 70)), found(6, segName(top-1), top-1))
	asked(t, "a frame behind it", with(laid(top-2, p), n, p[1].bytes(), beyond), found(10, n, 16))
}
