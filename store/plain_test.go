package store_test

import (
	"encoding/binary"
	"fmt"
	"hash/crc32"
	"math"
	"math/bits"
	"slices"
	"strings"
	"testing"

	"flume/api"
	"flume/disk"
	"flume/store"
)

// same holds what was answered against what the document asks.
func same(t *testing.T, what string, got, want any) {
	t.Helper()
	if g, w := fmt.Sprintf("%+v", got), fmt.Sprintf("%+v", want); g != w {
		t.Fatalf("%s: %s, want %s", what, shortened(g), shortened(w))
	}
}

func shortened(s string) string {
	if len(s) > 2000 {
		return s[:2000] + ".."
	}
	return s
}

// ---- files as bytes, by the words of doc/06 and doc/10 ----

func plainSum(b []byte) uint32 {
	return crc32.Checksum(b, crc32.MakeTable(crc32.Castagnoli))
}

func plainMark(sum uint32) []byte {
	return binary.LittleEndian.AppendUint32(nil, bits.RotateLeft32(sum, -15)+0xa282ead8)
}

func plainHead(h api.Head) ([]byte, uint32) {
	b := []byte("FLUMELOG")
	b = binary.LittleEndian.AppendUint64(b, uint64(h.Num))
	b = binary.LittleEndian.AppendUint64(b, uint64(h.Base))
	b = binary.LittleEndian.AppendUint32(b, h.Seed)
	sum := plainSum(b)
	return append(b, plainMark(sum)...), sum
}

func plainFrame(seed uint32, lsn int64, data []byte) ([]byte, uint32) {
	b := binary.LittleEndian.AppendUint32(nil, uint32(len(data)))
	b = binary.LittleEndian.AppendUint64(b, uint64(lsn))
	sum := plainSum(slices.Concat(binary.LittleEndian.AppendUint32(nil, seed), b, data))
	return slices.Concat(b, plainMark(sum), data), sum
}

// plainFile is a segment's file: its bytes, and its seed.
func plainFile(h api.Head, datas ...[]byte) ([]byte, uint32) {
	all, seed := plainHead(h)
	for i, data := range datas {
		var b []byte
		b, seed = plainFrame(seed, h.Base+int64(i), data)
		all = append(all, b...)
	}
	return all, seed
}

// plainRecords are the records of a file behind its head, as far as the bytes are frames: those that would be written so.
func plainRecords(b []byte, h api.Head) (datas [][]byte) {
	_, seed := plainHead(h)
	b = b[32:]
	for len(b) >= 16 {
		n := int(binary.LittleEndian.Uint32(b))
		if n > 4096 || 16+n > len(b) {
			break
		}
		f, sum := plainFrame(seed, h.Base+int64(len(datas)), b[16:16+n])
		if string(f) != string(b[:16+n]) {
			break
		}
		datas = append(datas, slices.Clone(b[16:16+n]))
		b, seed = b[16+n:], sum
	}
	return datas
}

func plainCatalog(c api.Catalog) []byte {
	b := []byte("FCAT")
	for _, n := range []int64{c.Gen, c.First, int64(len(c.Segs))} {
		b = binary.AppendUvarint(b, uint64(n))
	}
	for _, g := range c.Segs {
		b = binary.AppendUvarint(b, uint64(g.Num))
		b = binary.AppendUvarint(b, uint64(g.Base))
		b = binary.LittleEndian.AppendUint32(b, g.Seed)
		b = binary.AppendUvarint(b, uint64(g.End))
		b = binary.AppendUvarint(b, uint64(g.Size))
	}
	return binary.LittleEndian.AppendUint32(b, plainSum(b))
}

func segName(num int64) string { return fmt.Sprintf("seg-%016x.log", num) }

// ---- a log's files, laid by hand ----

// part is a segment that is laid: what the catalog says of it, and its records.
type part struct {
	seg   api.Seg
	datas [][]byte
}

func (p part) head() api.Head {
	return api.Head{Num: p.seg.Num, Base: p.seg.Base, Seed: p.seg.Seed}
}

func (p part) bytes() []byte {
	b, _ := plainFile(p.head(), p.datas...)
	return b
}

// chained makes the parts of a log from the segment num and the LSN base on, each list of records a segment.
func chained(num, base int64, lists ...[][]byte) []part {
	var parts []part
	seed := uint32(0)
	for i, datas := range lists {
		p := part{api.Seg{Num: num + int64(i), Base: base, Seed: seed}, datas}
		b, sum := plainFile(p.head(), datas...)
		base, seed = base+int64(len(datas)), sum
		if i < len(lists)-1 {
			p.seg.End, p.seg.Size = base, len(b)
		}
		parts = append(parts, p)
	}
	return parts
}

// catalogOf is the catalog of those parts.
func catalogOf(gen, first int64, parts []part) api.Catalog {
	c := api.Catalog{Gen: gen, First: first}
	for _, p := range parts {
		c.Segs = append(c.Segs, p.seg)
	}
	return c
}

// put lays a file, all of which lasts; its name does behind the next SyncDir.
func put(t *testing.T, d *disk.Disk, name string, b []byte) {
	t.Helper()
	same(t, "Create", d.Create(name), api.OK)
	_, err := d.Append(name, b)
	same(t, "Append", err, api.OK)
	same(t, "Sync", d.Sync(name), api.OK)
}

// laid is a disk with a log of those parts, all of which lasts.
func laid(t *testing.T, gen, first int64, parts []part) *disk.Disk {
	t.Helper()
	d := disk.New(1 << 20)
	for _, p := range parts {
		put(t, d, segName(p.seg.Num), p.bytes())
	}
	put(t, d, "catalog", plainCatalog(catalogOf(gen, first, parts)))
	same(t, "SyncDir", d.SyncDir(), api.OK)
	return d
}

// ---- short forms ----

func params(segMax int, base int64) api.Params { return api.Params{SegMax: segMax, Base: base} }

func texts(list ...string) [][]byte {
	var datas [][]byte
	for _, s := range list {
		datas = append(datas, []byte(s))
	}
	return datas
}

// big is that many bytes, unlike one another.
func big(n int) []byte {
	b := make([]byte, n)
	for i := range b {
		b[i] = byte(i*i + i/256)
	}
	return b
}

func arm(t *testing.T, d *disk.Disk, fs ...api.Fault) {
	t.Helper()
	same(t, "Arm", d.Arm(fs...), api.OK)
}

// opened opens a log.
func opened(t *testing.T, d *disk.Disk, p api.Params) (*store.Store, api.Found) {
	t.Helper()
	s, found, err := store.Open(d, p)
	same(t, "P14.1: Open", err, api.OK)
	return s, found
}

// fresh is a new log of small segments with such records, all of which last.
func fresh(t *testing.T, datas ...[]byte) (*disk.Disk, *store.Store) {
	t.Helper()
	d := disk.New(1 << 20)
	s, _ := opened(t, d, params(64, 1))
	if len(datas) > 0 {
		wantAppend(t, "records", s, 1, api.OK, datas...)
		same(t, "P14.3: Sync", s.Sync(), api.OK)
	}
	return d, s
}

func wantAppend(t *testing.T, what string, s *store.Store, want int64, wantErr api.Errno, datas ...[]byte) {
	t.Helper()
	lsn, err := s.Append(datas...)
	same(t, "P14.2: "+what, fmt.Sprint(lsn, err), fmt.Sprint(want, wantErr))
}

// wantOpen opens what is to be refused.
func wantOpen(t *testing.T, what string, d *disk.Disk, p api.Params, want api.Errno) {
	t.Helper()
	s, found, err := store.Open(d, p)
	if s != nil || found != (api.Found{}) || err != want {
		t.Fatalf("P14.1: %s: %v, %+v, %d, want none and %d", what, s, found, err, want)
	}
}

func wantRead(t *testing.T, what string, s *store.Store, lsn int64, want api.Errno) {
	t.Helper()
	rec, err := s.Read(lsn)
	if rec.LSN != 0 || len(rec.Data) != 0 || err != want {
		t.Fatalf("P14.4: %s: Read(%d): %+v, %d, want the zero one and %d", what, lsn, rec, err, want)
	}
}

// wantRecords reads all that is to last, from first on, and what is out of its bounds.
func wantRecords(t *testing.T, what string, s *store.Store, first int64, datas ...[]byte) {
	t.Helper()
	for i, data := range datas {
		lsn := first + int64(i)
		rec, err := s.Read(lsn)
		if rec.LSN != lsn || string(rec.Data) != string(data) || err != api.OK {
			t.Fatalf("P14.4: %s: Read(%d): %d, %q, %d, want %q", what, lsn, rec.LSN, rec.Data, err, data)
		}
	}
	for _, lsn := range []int64{first - 1, 0, -1, math.MinInt64} {
		wantRead(t, what, s, lsn, api.ErrTruncated)
	}
	for _, lsn := range []int64{first + int64(len(datas)), math.MaxInt64} {
		wantRead(t, what, s, lsn, api.ErrNotYet)
	}
}

// bytesOf are a file's bytes, of a disk that is down too.
func bytesOf(d *disk.Disk, name string) []byte {
	for _, f := range d.Files() {
		if f.Name == name {
			return f.Bytes
		}
	}
	return nil
}

func namesOf(d *disk.Disk) string {
	var l []string
	for _, f := range d.Files() {
		l = append(l, f.Name)
	}
	return strings.Join(l, " ")
}

// allLasts asks that a loss of power would change nothing.
func allLasts(t *testing.T, what string, d *disk.Disk) {
	t.Helper()
	same(t, what+": nothing pends", d.Pending(), 0)
	for _, tail := range d.Tails(0) {
		same(t, what+": no tail of "+tail.Name, tail.N, 0)
	}
	same(t, what+": all lasts", fmt.Sprintf("%x", d.Lasting()), fmt.Sprintf("%x", d.Files()))
}

// tell writes all of a disk down that can be asked for.
func tell(d *disk.Disk) string {
	var l []string
	for dir := range d.Pending() + 1 {
		l = append(l, fmt.Sprint(d.Tails(dir)))
	}
	return fmt.Sprintf("%+v up %v, %x, lasting %x, tails %s", d.Count(), d.Up(), d.Files(), d.Lasting(), strings.Join(l, " "))
}

// kinds names the operations by which one count is beyond another.
func kinds(was, now api.Counts) string {
	var l []string
	for _, k := range []struct {
		name string
		n    int64
	}{
		{"Create", now.Creates - was.Creates}, {"Append", now.Appends - was.Appends}, {"Sync", now.Syncs - was.Syncs}, {"Cut", now.Cuts - was.Cuts},
		{"Rename", now.Renames - was.Renames}, {"Remove", now.Removes - was.Removes}, {"SyncDir", now.DirSyncs - was.DirSyncs},
	} {
		for range k.n {
			l = append(l, k.name)
		}
	}
	return strings.Join(l, " ")
}

// traced tells the operations of a call in their order: the power is lost at the first of them, then, all laid anew, at the second, and so on.
func traced(t *testing.T, lay func() (*disk.Disk, func())) string {
	t.Helper()
	var l []string
	before := api.Counts{}
	for at := int64(1); ; at++ {
		d, call := lay()
		was := d.Count()
		arm(t, d, api.Fault{At: at, Kind: api.FaultPower})
		call()
		now := d.Count()
		if now.All-was.All < at {
			return strings.Join(l, " ")
		}
		if at == 1 {
			before = was
		}
		l = append(l, kinds(before, now))
		before = now
	}
}

const (
	rollOps    = "Sync Create Append Sync Create Append Sync Rename SyncDir"
	catalogOps = "Create Append Sync Rename SyncDir"
	freshOps   = "Create Append Sync " + catalogOps
)

// inOrder joins lists of operations.
func inOrder(list ...string) string {
	return strings.Join(slices.DeleteFunc(list, func(s string) bool { return s == "" }), " ")
}
