package audit_test

import (
	"encoding/binary"
	"fmt"
	"hash/crc32"
	"maps"
	"math/bits"
	"regexp"
	"slices"
	"testing"

	"flume/api"
	"flume/catalog"
)

// same holds what was answered against what the document asks.
func same(t *testing.T, what string, got, want any) {
	t.Helper()
	if g, w := fmt.Sprintf("%+v", got), fmt.Sprintf("%+v", want); g != w {
		t.Fatalf("%s: %s, want %s", what, shortened(g), shortened(w))
	}
}

func shortened(s string) string {
	if len(s) > 2000 {
		return s[:2000] + ".."
	}
	return s
}

// ---- files as bytes, by the words of doc/06 and doc/10 ----

func plainSum(b []byte) uint32 {
	return crc32.Checksum(b, crc32.MakeTable(crc32.Castagnoli))
}

func plainMark(sum uint32) []byte {
	return binary.LittleEndian.AppendUint32(nil, bits.RotateLeft32(sum, -15)+0xa282ead8)
}

func plainHead(h api.Head) ([]byte, uint32) {
	b := []byte("FLUMELOG")
	b = binary.LittleEndian.AppendUint64(b, uint64(h.Num))
	b = binary.LittleEndian.AppendUint64(b, uint64(h.Base))
	b = binary.LittleEndian.AppendUint32(b, h.Seed)
	sum := plainSum(b)
	return append(b, plainMark(sum)...), sum
}

func plainFrame(seed uint32, lsn int64, data []byte) ([]byte, uint32) {
	b := binary.LittleEndian.AppendUint32(nil, uint32(len(data)))
	b = binary.LittleEndian.AppendUint64(b, uint64(lsn))
	sum := plainSum(slices.Concat(binary.LittleEndian.AppendUint32(nil, seed), b, data))
	return slices.Concat(b, plainMark(sum), data), sum
}

// plainFile is a segment's file: its bytes, and its seed.
func plainFile(h api.Head, datas ...[]byte) ([]byte, uint32) {
	all, seed := plainHead(h)
	for i, data := range datas {
		var b []byte
		b, seed = plainFrame(seed, h.Base+int64(i), data)
		all = append(all, b...)
	}
	return all, seed
}

func plainCatalog(c api.Catalog) []byte {
	b := []byte("FCAT")
	for _, n := range []int64{c.Gen, c.First, int64(len(c.Segs))} {
		b = binary.AppendUvarint(b, uint64(n))
	}
	for _, g := range c.Segs {
		b = binary.AppendUvarint(b, uint64(g.Num))
		b = binary.AppendUvarint(b, uint64(g.Base))
		b = binary.LittleEndian.AppendUint32(b, g.Seed)
		b = binary.AppendUvarint(b, uint64(g.End))
		b = binary.AppendUvarint(b, uint64(g.Size))
	}
	return summed(b)
}

// summed is b with its sum behind it.
func summed(b []byte) []byte {
	return binary.LittleEndian.AppendUint32(slices.Clone(b), plainSum(b))
}

func segName(num int64) string { return fmt.Sprintf("seg-%016x.log", num) }

// ---- a log's files, laid by hand ----

// part is a segment: what the catalog says of it, and its records.
type part struct {
	seg   api.Seg
	datas [][]byte
}

func (p part) head() api.Head {
	return api.Head{Num: p.seg.Num, Base: p.seg.Base, Seed: p.seg.Seed}
}

func (p part) bytes() []byte {
	b, _ := plainFile(p.head(), p.datas...)
	return b
}

// seed is what the segment behind is chained to.
func (p part) seed() uint32 {
	_, seed := plainFile(p.head(), p.datas...)
	return seed
}

// chained makes the parts of a log from the segment num and the LSN base on, each list of records a segment.
func chained(num, base int64, lists ...[][]byte) []part {
	var parts []part
	seed := uint32(0)
	for i, datas := range lists {
		p := part{api.Seg{Num: num + int64(i), Base: base, Seed: seed}, datas}
		base, seed = base+int64(len(datas)), p.seed()
		if i < len(lists)-1 {
			p.seg.End, p.seg.Size = base, len(p.bytes())
		}
		parts = append(parts, p)
	}
	return parts
}

// catalogOf is the catalog of those parts.
func catalogOf(first int64, parts []part) api.Catalog {
	c := api.Catalog{Gen: 1, First: first}
	for _, p := range parts {
		c.Segs = append(c.Segs, p.seg)
	}
	return c
}

// laid is the files of a log of those parts.
func laid(first int64, parts []part) []api.File {
	fs := []api.File{file("catalog", plainCatalog(catalogOf(first, parts)))}
	for _, p := range parts {
		fs = append(fs, file(segName(p.seg.Num), p.bytes()))
	}
	return fs
}

// ---- short forms ----

func file(name string, b []byte) api.File { return api.File{Name: name, Bytes: b} }

// empty is files of those names, without a byte.
func empty(names ...string) []api.File {
	var fs []api.File
	for _, n := range names {
		fs = append(fs, file(n, nil))
	}
	return fs
}

// with is the files, that one in the place of the one of its name, or behind all of them.
func with(fs []api.File, name string, parts ...[]byte) []api.File {
	fs = slices.Clone(fs)
	f := file(name, slices.Concat(parts...))
	i := slices.IndexFunc(fs, func(f api.File) bool { return f.Name == name })
	if i < 0 {
		return append(fs, f)
	}
	fs[i] = f
	return fs
}

// without is the files but that one.
func without(fs []api.File, name string) []api.File {
	return slices.DeleteFunc(slices.Clone(fs), func(f api.File) bool { return f.Name == name })
}

// beside is the files and more of them.
func beside(fs []api.File, more ...api.File) []api.File {
	return slices.Concat(fs, more)
}

// bytesOf is a copy of the bytes of the first file of that name.
func bytesOf(t *testing.T, fs []api.File, name string) []byte {
	t.Helper()
	i := slices.IndexFunc(fs, func(f api.File) bool { return f.Name == name })
	if i < 0 {
		t.Fatalf("no file %q", name)
	}
	return slices.Clone(fs[i].Bytes)
}

func texts(list ...string) [][]byte {
	var datas [][]byte
	for _, s := range list {
		datas = append(datas, []byte(s))
	}
	return datas
}

// big is that many bytes, unlike one another.
func big(n int) []byte {
	b := make([]byte, n)
	for i := range b {
		b[i] = byte(i*i + i/256)
	}
	return b
}

// flip is b with a bit turned over.
func flip(b []byte, at int) []byte {
	b = slices.Clone(b)
	b[at] ^= 1
	return b
}

func found(code int, name string, at int64) api.Finding {
	return api.Finding{Code: code, Name: name, At: at}
}

func findings(l ...api.Finding) []api.Finding { return l }

// ---- an audit by the words of doc/15 ----

var (
	mayBe   = regexp.MustCompile(`^[a-z0-9]([a-z0-9.-]{0,62}[a-z0-9])?$`)
	segment = regexp.MustCompile(`^seg-[0-7][0-9a-f]{15}\.log$`)
)

// plainKind is name.Kind by the words of doc/08.
func plainKind(name string) int {
	switch {
	case !mayBe.MatchString(name):
		return 0
	case segment.MatchString(name) && name != segName(0):
		return 1
	case name == "catalog":
		return 2
	case name == "catalog-next" || name == "segment-next":
		return 3
	}
	return 4
}

// plainScan goes over a segment's file behind its head, as far as the bytes are frames: those that would be written so.
func plainScan(b []byte, h api.Head) (recs []api.Record, size int, seed uint32) {
	_, seed = plainHead(h)
	for size = 32; len(b)-size >= 16; {
		n, lsn := int(binary.LittleEndian.Uint32(b[size:])), h.Base+int64(len(recs))
		if n > 4096 || size+16+n > len(b) || lsn > 1<<63-2 {
			break
		}
		data := b[size+16 : size+16+n]
		f, sum := plainFrame(seed, lsn, data)
		if string(f) != string(b[size:size+16+n]) {
			break
		}
		recs = append(recs, api.Record{LSN: lsn, Data: slices.Clone(data)})
		size, seed = size+16+n, sum
	}
	return recs, size, seed
}

// plainAudit is all that is to be told of files.
type plainAudit struct {
	found       []api.Finding
	sound       bool
	first, next int64
	records     []api.Record
}

func (p *plainAudit) tell(code int, name string, at int64) {
	p.found = append(p.found, found(code, name, at))
}

// plainly looks at files.
func plainly(fs []api.File) plainAudit {
	files := map[string][]byte{}
	for _, f := range slices.Backward(fs) {
		files[f.Name] = f.Bytes
	}
	p := plainAudit{}
	var c api.Catalog
	if b, ok := files["catalog"]; !ok {
		p.tell(1, "catalog", 0)
	} else if read, err := catalog.Read(b); err != api.OK {
		p.tell(2, "catalog", int64(err))
	} else {
		c = read
		p.segments(files, c)
	}
	for _, n := range slices.Sorted(maps.Keys(files)) {
		k := plainKind(n)
		ours := slices.ContainsFunc(c.Segs, func(g api.Seg) bool { return segName(g.Num) == n })
		if k == 1 && !ours || k == 3 {
			p.tell(8, n, 0)
		}
		if k == 4 || k == 0 {
			p.tell(9, n, 0)
		}
	}
	p.sound = true
	for _, f := range p.found {
		p.sound = p.sound && (f.Code == 8 || f.Code == 9 || f.Code == 10)
	}
	if !p.sound {
		p.first, p.next, p.records = 0, 0, nil
	}
	return p
}

func (p *plainAudit) segments(files map[string][]byte, c api.Catalog) {
	p.first = c.First
	for i, g := range c.Segs {
		n := segName(g.Num)
		b, ok := files[n]
		if !ok {
			p.tell(3, n, 0)
			continue
		}
		h := api.Head{Num: g.Num, Base: g.Base, Seed: g.Seed}
		if front, _ := plainHead(h); len(b) < 32 || string(front) != string(b[:32]) {
			p.tell(4, n, 0)
			continue
		}
		recs, size, seed := plainScan(b, h)
		next := g.Base + int64(len(recs))
		for _, rec := range recs {
			if rec.LSN >= c.First {
				p.records = append(p.records, rec)
			}
		}
		if i == len(c.Segs)-1 {
			p.open(c, n, next, len(b)-size)
			continue
		}
		five, six := len(b) != g.Size, next != g.End || size != g.Size
		if five {
			p.tell(5, n, int64(len(b)))
		}
		if six {
			p.tell(6, n, next)
		}
		if !five && !six && seed != c.Segs[i+1].Seed {
			p.tell(7, n, 0)
		}
	}
}

func (p *plainAudit) open(c api.Catalog, name string, next int64, behind int) {
	p.next = next
	if behind > 0 {
		p.tell(10, name, int64(behind))
	}
	if c.First > next {
		p.tell(11, "catalog", c.First)
	}
}
