package segment_test

import (
	"encoding/binary"
	"fmt"
	"hash/crc32"
	"math/bits"
	"slices"
	"strings"
	"testing"

	"flume/api"
	"flume/disk"
	"flume/segment"
)

const file = "seg-0000000000000001.log"

// same holds what was answered against what the document asks.
func same(t *testing.T, what string, got, want any) {
	t.Helper()
	if g, w := fmt.Sprintf("%+v", got), fmt.Sprintf("%+v", want); g != w {
		t.Fatalf("%s: %s, want %s", what, g, w)
	}
}

// ---- heads and frames as bytes, by the words of doc/06 ----

func plainSum(b []byte) uint32 {
	return crc32.Checksum(b, crc32.MakeTable(crc32.Castagnoli))
}

func plainMark(sum uint32) []byte {
	return binary.LittleEndian.AppendUint32(nil, bits.RotateLeft32(sum, -15)+0xa282ead8)
}

func plainHead(h api.Head) ([]byte, uint32) {
	b := []byte("FLUMELOG")
	b = binary.LittleEndian.AppendUint64(b, uint64(h.Num))
	b = binary.LittleEndian.AppendUint64(b, uint64(h.Base))
	b = binary.LittleEndian.AppendUint32(b, h.Seed)
	sum := plainSum(b)
	return append(b, plainMark(sum)...), sum
}

func plainFrame(seed uint32, lsn int64, data []byte) ([]byte, uint32) {
	b := binary.LittleEndian.AppendUint32(nil, uint32(len(data)))
	b = binary.LittleEndian.AppendUint64(b, uint64(lsn))
	sum := plainSum(slices.Concat(binary.LittleEndian.AppendUint32(nil, seed), b, data))
	return slices.Concat(b, plainMark(sum), data), sum
}

// plainFile is a segment's file: its bytes, and its seed.
func plainFile(h api.Head, datas ...[]byte) ([]byte, uint32) {
	all, seed := plainHead(h)
	for i, data := range datas {
		var b []byte
		b, seed = plainFrame(seed, h.Base+int64(i), data)
		all = append(all, b...)
	}
	return all, seed
}

// plainRecords are the records behind a head, as far as the bytes are frames: those that would be written so.
func plainRecords(b []byte, h api.Head) (datas [][]byte) {
	b, seed := b[32:], plainLook(h).Seed
	for len(b) >= 16 {
		n := int(binary.LittleEndian.Uint32(b))
		if n > 4096 || 16+n > len(b) {
			break
		}
		f, sum := plainFrame(seed, h.Base+int64(len(datas)), b[16:16+n])
		if string(f) != string(b[:16+n]) {
			break
		}
		datas = append(datas, slices.Clone(b[16:16+n]))
		b, seed = b[16+n:], sum
	}
	return datas
}

// plainLook is what a segment of such a file tells of itself.
func plainLook(h api.Head, datas ...[]byte) api.SegLook {
	b, seed := plainFile(h, datas...)
	return api.SegLook{File: file, Head: h, Next: h.Base + int64(len(datas)), Size: len(b), Seed: seed}
}

func broken(l api.SegLook) api.SegLook {
	l.Broken = true
	return l
}

func under(name string, l api.SegLook) api.SegLook {
	l.File = name
	return l
}

// ---- short forms ----

func headOf(base int64) api.Head { return api.Head{Num: 1, Base: base, Seed: 7} }

func texts(list ...string) [][]byte {
	var datas [][]byte
	for _, s := range list {
		datas = append(datas, []byte(s))
	}
	return datas
}

// big is that many bytes, unlike one another.
func big(n int) []byte {
	b := make([]byte, n)
	for i := range b {
		b[i] = byte(i*i + i/256)
	}
	return b
}

// laid makes a segment with those records, and its disk, with all that lasts.
func laid(t *testing.T, base int64, datas ...[]byte) (*disk.Disk, *segment.Segment) {
	t.Helper()
	d := disk.New(1 << 20)
	s, err := segment.Create(d, file, headOf(base))
	same(t, "P13.1: Create", err, api.OK)
	same(t, "SyncDir", d.SyncDir(), api.OK)
	if len(datas) > 0 {
		lsn, err := s.Put(datas...)
		same(t, "P13.3: Put", fmt.Sprint(lsn, err), fmt.Sprint(base, 0))
		same(t, "P13.4: Sync", s.Sync(), api.OK)
	}
	return d, s
}

// onDisk makes a disk with a file of such bytes, all of which last.
func onDisk(t *testing.T, b []byte) *disk.Disk {
	t.Helper()
	d := disk.New(1 << 20)
	d.Create(file)
	d.Append(file, b)
	d.Sync(file)
	same(t, "SyncDir", d.SyncDir(), api.OK)
	return d
}

// opened opens a file of such bytes.
func opened(t *testing.T, b []byte) (*disk.Disk, *segment.Segment, api.Scan) {
	t.Helper()
	d := onDisk(t, b)
	s, found, err := segment.Open(d, file)
	same(t, "P13.2: Open", err, api.OK)
	return d, s, found
}

func arm(t *testing.T, d *disk.Disk, fs ...api.Fault) {
	t.Helper()
	same(t, "Arm", d.Arm(fs...), api.OK)
}

// downDisk is a disk with a segment of one record, without power.
func downDisk(t *testing.T) *disk.Disk {
	t.Helper()
	d, _ := laid(t, 1, texts("a")...)
	arm(t, d, api.Fault{At: 1, Kind: api.FaultPower})
	same(t, "the fault", d.SyncDir(), api.ErrDown)
	return d
}

// bytesOf are a file's bytes, of a disk that is down too.
func bytesOf(d *disk.Disk, name string) []byte {
	for _, f := range d.Files() {
		if f.Name == name {
			return f.Bytes
		}
	}
	return nil
}

// ended tells how a call ended: by an error's number, or by a panic, which must be the disk's.
func ended(do func() api.Errno) (how string) {
	defer func() {
		if x := recover(); x != nil {
			how = fmt.Sprintf("%T%+v", x, x)
		}
	}()
	return fmt.Sprint(do())
}

func boom(op int64) string { return fmt.Sprintf("api.Boom{Op:%d}", op) }

// fails is how the operation with the number op ends that a fault of that kind befalls.
func fails(kind int, op int64) string {
	switch kind {
	case api.FaultIO:
		return fmt.Sprint(api.ErrIO)
	case api.FaultFull:
		return fmt.Sprint(api.ErrFull)
	case api.FaultPower:
		return fmt.Sprint(api.ErrDown)
	}
	return boom(op)
}

// tell writes all of a disk down that can be asked for.
func tell(d *disk.Disk) string {
	var l []string
	for dir := range d.Pending() + 1 {
		l = append(l, fmt.Sprint(d.Tails(dir)))
	}
	return fmt.Sprintf("%+v up %v, %x, lasting %x, tails %s", d.Count(), d.Up(), d.Files(), d.Lasting(), strings.Join(l, " "))
}

// readAll reads each of a segment's records, and one below and one above.
func readAll(t *testing.T, what string, s *segment.Segment, base int64, datas ...[]byte) {
	t.Helper()
	for i, data := range datas {
		rec, err := s.Read(base + int64(i))
		if rec.LSN != base+int64(i) || string(rec.Data) != string(data) || err != api.OK {
			t.Fatalf("P13.5: %s: Read(%d): %d, %q, %d, want %q", what, base+int64(i), rec.LSN, rec.Data, err, data)
		}
	}
	wantNone(t, what, s, base-1, base+int64(len(datas)))
}

func wantNone(t *testing.T, what string, s *segment.Segment, lsns ...int64) {
	t.Helper()
	for _, lsn := range lsns {
		wantRead(t, what, s, lsn, api.ErrNone)
	}
}

// wantRead asks for a record that is to be refused.
func wantRead(t *testing.T, what string, s *segment.Segment, lsn int64, want api.Errno) {
	t.Helper()
	rec, err := s.Read(lsn)
	if rec.LSN != 0 || len(rec.Data) != 0 || err != want {
		t.Fatalf("P13.5: %s: Read(%d): %+v, %d, want the zero one and %d", what, lsn, rec, err, want)
	}
}
