package segment_test

import (
	"fmt"
	"math"
	"slices"
	"strings"
	"testing"

	"flume/api"
	"flume/disk"
	"flume/segment"
)

func TestExamples(t *testing.T) {
	d := disk.New(1 << 20)
	s, err := segment.Create(d, "seg", api.Head{Num: 1, Base: 5})
	same(t, "P13.1: Create", err, api.OK)
	lsn, err := s.Put(texts("a", "bc")...)
	same(t, "P13.3: Put", fmt.Sprint(lsn, err), "5 0")
	same(t, "P13.6: Next", s.Look().Next, 7)
	same(t, "P13.6: Size", s.Look().Size, 32+17+18)
	rec, err := s.Read(5)
	same(t, "P13.5: Read(5)", fmt.Sprintf("%d %s %d", rec.LSN, rec.Data, err), "5 a 0")
	wantNone(t, "the example", s, 7, 4)
	lsn, err = s.Put()
	same(t, "P13.3: Put of none", fmt.Sprint(lsn, err), fmt.Sprint(0, api.ErrArg))
	lsn, err = s.Put(make([]byte, 4097))
	same(t, "P13.3: Put of 4,097 bytes", fmt.Sprint(lsn, err), fmt.Sprint(0, api.ErrLong))

	s, err = segment.Create(d, "end", api.Head{Num: 1, Base: 1<<63 - 2})
	same(t, "P13.1: Create", err, api.OK)
	for _, c := range []struct {
		datas [][]byte
		lsn   int64
		err   api.Errno
	}{{texts("a", "b"), 0, api.ErrEnd}, {texts("a"), 1<<63 - 2, api.OK}, {texts("a"), 0, api.ErrEnd}} {
		lsn, err := s.Put(c.datas...)
		same(t, "P13.3: Put at the end", fmt.Sprint(lsn, err), fmt.Sprint(c.lsn, c.err))
	}
}

var heads = []api.Head{
	{Num: 1, Base: 1}, {Num: 1, Base: 5, Seed: 9}, {Num: math.MaxInt64, Base: 1, Seed: math.MaxUint32},
	{Num: 3, Base: math.MaxInt64 - 1}, {Num: 3, Base: math.MaxInt64, Seed: 1}, {Num: 1 << 40, Base: 1 << 40},
}

func TestCreate(t *testing.T) {
	for _, h := range heads {
		for _, most := range []int{32, 1 << 20} {
			d := disk.New(most)
			s, err := segment.Create(d, file, h)
			same(t, "P13.1: Create", err, api.OK)
			same(t, "P13.1: its operations", d.Count(), api.Counts{Creates: 1, Appends: 1, Syncs: 1, All: 3, Bytes: 32})
			same(t, "P13.6: Look", s.Look(), plainLook(h))
			b, _ := plainHead(h)
			same(t, "P13.1: the file", bytesOf(d, file), b)
			same(t, "P13.1: its name pends", d.Pending(), 1)
			same(t, "P13.1: its bytes last", d.Tails(1), []api.Tail{{Name: file}})
			wantNone(t, "no records", s, h.Base, h.Base-1, 0)
		}
	}
}

// Each of Create's three operations meets a fault of each kind: those ahead of it were done, none behind it is.
func TestCreateWithFaults(t *testing.T) {
	h := headOf(5)
	head, _ := plainHead(h)
	for op := int64(1); op <= 3; op++ {
		for kind := api.FaultIO; kind <= api.FaultPanic; kind++ {
			for _, part := range []int{0, 1, 31, 32, 33, 1000} {
				d := disk.New(1 << 20)
				arm(t, d, api.Fault{At: op, Kind: kind, Part: part})
				var s *segment.Segment
				how := ended(func() (err api.Errno) { s, err = segment.Create(d, file, h); return })
				what := fmt.Sprintf("P13.1: operation %d, fault %d, part %d", op, kind, part)
				want := fails(kind, op)
				if op == 3 && kind == api.FaultFull {
					want = "0" // A Sync takes no room.
				}
				same(t, what, how, want)
				same(t, what+": a segment", s != nil, want == "0")
				same(t, what+": up", d.Up(), kind != api.FaultPower)
				c := api.Counts{Creates: 1, Appends: op / 2, Syncs: op / 3, All: op}
				laid := ""
				if op == 2 {
					laid = string(head[:min(part, 32)])
				} else if op == 3 {
					laid = string(head)
				}
				c.Bytes = int64(len(laid))
				same(t, what+": operations", d.Count(), c)
				same(t, what+": a file", len(d.Files()), min(op-1, 1))
				same(t, what+": its bytes", string(bytesOf(d, file)), laid)
				if s != nil {
					same(t, what+": Look", s.Look(), plainLook(h))
				}
			}
		}
	}
}

func TestCreateRefused(t *testing.T) {
	many := disk.New(1 << 20)
	for i := range api.MaxFiles {
		many.Create(fmt.Sprint("f", i))
	}
	there, _ := laid(t, 1, texts("a")...)
	for _, c := range []struct {
		what string
		d    *disk.Disk
		file string
		h    api.Head
		want api.Errno
		ops  int64
	}{
		{"a disk without room", disk.New(0), file, headOf(1), api.ErrFull, 2},
		{"a disk with too little room", disk.New(31), file, headOf(1), api.ErrFull, 2},
		{"a file that is there", there, file, headOf(2), api.ErrExists, 0},
		{"too many files", many, file, headOf(1), api.ErrMany, 0},
		{"no name", disk.New(99), "", headOf(1), api.ErrName, 0},
		{"a name that is none", disk.New(99), "Seg", headOf(1), api.ErrName, 0},
		{"a name that is too long", disk.New(99), strings.Repeat("a", 65), headOf(1), api.ErrName, 0},
		{"a disk that is down", downDisk(t), "other", headOf(1), api.ErrDown, 0},
		{"a disk that New did not make", &disk.Disk{}, file, headOf(1), api.ErrDown, 0},
		{"no disk", nil, file, headOf(1), api.ErrArg, 0},
		{"no disk, no name, no head", nil, "", api.Head{}, api.ErrArg, 0},
		{"no head", disk.New(99), file, api.Head{}, api.ErrArg, 0},
		{"no Num", disk.New(99), file, api.Head{Base: 1}, api.ErrArg, 0},
		{"no Base", disk.New(99), file, api.Head{Num: 1}, api.ErrArg, 0},
		{"a Num below 0", disk.New(99), file, api.Head{Num: -1, Base: 1}, api.ErrArg, 0},
		{"the least Base", disk.New(99), file, api.Head{Num: 1, Base: math.MinInt64}, api.ErrArg, 0},
		{"no head, no name", disk.New(99), "", api.Head{}, api.ErrArg, 0},
		{"no head, a disk that is down", downDisk(t), file, api.Head{}, api.ErrArg, 0},
		{"no head, a file that is there", there, file, api.Head{Num: 1}, api.ErrArg, 0},
	} {
		was := c.d.Count()
		s, err := segment.Create(c.d, c.file, c.h)
		same(t, "P13.1: "+c.what, err, c.want)
		same(t, "P13.1: no segment: "+c.what, s == nil, true)
		same(t, "P13.1: operations: "+c.what, c.d.Count().All-was.All, c.ops)
	}
	b, _ := plainFile(headOf(1), texts("a")...)
	same(t, "P13.1: the file that was there", bytesOf(there, file), b)
}

// An armed fault stays armed where no operation was done.
func TestCreateWithoutOperation(t *testing.T) {
	d := disk.New(99)
	arm(t, d, api.Fault{At: 1, Kind: api.FaultIO})
	_, err := segment.Create(d, file, api.Head{})
	same(t, "P13.1: no head", err, api.ErrArg)
	_, err = segment.Create(d, file, headOf(1))
	same(t, "P13.1: the fault", err, api.ErrIO)
	_, err = segment.Create(d, file, headOf(1))
	same(t, "P13.1: behind the fault", err, api.OK)
}

// checkOpen opens a file of those records and of rest, of which no frame comes.
func checkOpen(t *testing.T, what string, h api.Head, datas [][]byte, rest []byte, why int) {
	t.Helper()
	front, seed := plainFile(h, datas...)
	want := api.Scan{Count: len(datas), End: len(front) - 32, Next: h.Base + int64(len(datas)), Seed: seed, Why: why}
	d := onDisk(t, slices.Concat(front, rest))
	was := tell(d)
	s, found, err := segment.Open(d, file)
	same(t, "P13.2: "+what, err, api.OK)
	same(t, "P13.2: the scan: "+what, found, want)
	look := plainLook(h, datas...)
	look.Broken = len(rest) > 0
	same(t, "P13.6: Look: "+what, s.Look(), look)
	readAll(t, what, s, h.Base, datas...)
	same(t, "P13.2: the file is not changed: "+what, tell(d), was)
}

func TestOpen(t *testing.T) {
	lists := map[string][][]byte{
		"a head alone": nil, "an empty record": {nil}, "a record": texts("a"), "two": texts("a", "bc"),
		"a long one": {big(4096)}, "long and short": {big(4096), nil, big(1000), []byte("x"), big(4095), nil, nil, big(7)},
	}
	for what, datas := range lists {
		for _, h := range []api.Head{headOf(1), {Num: math.MaxInt64, Base: 1 << 40, Seed: 3}, {Num: 2, Base: api.MaxLSN - int64(len(datas))}} {
			checkOpen(t, what, h, datas, nil, api.WhyEnd)
			for n := 1; n < 16; n++ {
				checkOpen(t, fmt.Sprint(what, ", and bytes behind: ", n), h, datas, make([]byte, n), api.WhyShort)
			}
			checkOpen(t, what+", and 00 behind", h, datas, make([]byte, 100), api.WhyForm)
			checkOpen(t, what+", and ff behind", h, datas, []byte(strings.Repeat("\xff", 100)), api.WhyLong)
			_, seed := plainFile(h, datas...)
			next, _ := plainFrame(seed, h.Base+int64(len(datas)), []byte("next"))
			checkOpen(t, what+", and a frame cut short", h, datas, next[:len(next)-1], api.WhyShort)
			next[len(next)-1]++
			checkOpen(t, what+", and a frame that is spoilt", h, datas, next, api.WhySum)
			other, _ := plainFrame(seed+1, h.Base+int64(len(datas)), nil)
			checkOpen(t, what+", and a frame behind another seed", h, datas, other, api.WhySum)
			again, _ := plainFrame(seed, max(1, h.Base-1), nil)
			if h.Base > 1 {
				checkOpen(t, what+", and a frame of another LSN", h, datas, again, api.WhyLSN)
			}
		}
	}
}

// The LSNs of a file go to the end: there is no further record.
func TestOpenAtTheEnd(t *testing.T) {
	checkOpen(t, "the last LSN", headOf(api.MaxLSN), texts("z"), nil, api.WhyEnd)
	checkOpen(t, "the last LSNs", headOf(api.MaxLSN-1), texts("y", "z"), make([]byte, 5), api.WhyShort)
	checkOpen(t, "no LSN is left", headOf(math.MaxInt64), nil, nil, api.WhyEnd)
	over, _ := plainFile(headOf(math.MaxInt64), []byte("over"))
	checkOpen(t, "a frame beyond the last LSN", headOf(math.MaxInt64), nil, over[32:], api.WhyForm)
}

func wantOpen(t *testing.T, what string, d *disk.Disk, name string, want api.Errno) {
	t.Helper()
	s, found, err := segment.Open(d, name)
	if s != nil || found != (api.Scan{}) || err != want {
		t.Fatalf("P13.2: %s: %v, %+v, %d, want nil, the zero Scan and %d", what, s != nil, found, err, want)
	}
}

func TestOpenRefused(t *testing.T) {
	d, _ := laid(t, 1, texts("a")...)
	wantOpen(t, "no disk", nil, file, api.ErrArg)
	wantOpen(t, "no disk, no name", nil, "", api.ErrArg)
	wantOpen(t, "a disk that New did not make", &disk.Disk{}, file, api.ErrDown)
	wantOpen(t, "a disk that is down", downDisk(t), file, api.ErrDown)
	wantOpen(t, "a disk that is down, no such file", downDisk(t), "b", api.ErrDown)
	wantOpen(t, "no such file", d, "b", api.ErrNone)
	for _, name := range []string{"", "B", "-a", "a-", "a/b", strings.Repeat("a", 65), strings.Repeat("x", 100000)} {
		wantOpen(t, "a name that is none", d, name, api.ErrName)
	}
	wantOpen(t, "an empty disk", disk.New(0), file, api.ErrNone)
}

func TestOpenWithoutHead(t *testing.T) {
	b, _ := plainFile(headOf(1), texts("a", "b")...)
	for n := range 32 {
		d := onDisk(t, b[:n])
		was := tell(d)
		wantOpen(t, fmt.Sprint("a head cut short: ", n), d, file, api.ErrCorrupt)
		same(t, "P13.2: the file is not changed", tell(d), was)
	}
	for bit := range 32 * 8 {
		spoilt := slices.Clone(b)
		spoilt[bit/8] ^= 1 << (bit % 8)
		wantOpen(t, fmt.Sprint("a head that is spoilt: bit ", bit), onDisk(t, spoilt), file, api.ErrCorrupt)
	}
	for _, h := range []api.Head{{}, {Num: 1}, {Base: 1}, {Num: -1, Base: 1}, {Num: 1, Base: math.MinInt64}} {
		b, _ := plainFile(h, texts("a")...)
		wantOpen(t, "a head that may not be", onDisk(t, b), file, api.ErrCorrupt)
	}
	wantOpen(t, "a head that does not stand at the front", onDisk(t, append([]byte{0}, b...)), file, api.ErrCorrupt)
	wantOpen(t, "frames alone", onDisk(t, b[32:]), file, api.ErrCorrupt)
	wantOpen(t, "bytes 00", onDisk(t, make([]byte, 64)), file, api.ErrCorrupt)
}

// No operation is done by Open, Read and Look, so that no fault befalls them.
func TestCallsWithoutOperation(t *testing.T) {
	b, _ := plainFile(headOf(1), texts("a", "b")...)
	d := onDisk(t, append(b, "rest"...))
	for kind := api.FaultIO; kind <= api.FaultPanic; kind++ {
		arm(t, d, api.Fault{At: 1, Kind: kind})
		was := tell(d)
		s, _, err := segment.Open(d, file)
		same(t, "P13.2: Open", err, api.OK)
		readAll(t, "a fault is armed", s, 1, texts("a", "b")...)
		same(t, "P13.6: Look", s.Look(), broken(plainLook(headOf(1), texts("a", "b")...)))
		s.Moved("x")
		s.Moved(file)
		same(t, "the disk", tell(d), was)
	}
}

// Open and those calls that were made of one file know of each other by the disk alone.
func TestTwoOfOneFile(t *testing.T) {
	d, s := laid(t, 1, texts("a")...)
	o, _, _ := segment.Open(d, file)
	s.Put([]byte("b"))
	same(t, "P0.5: the other one", o.Look(), plainLook(headOf(1), texts("a")...))
	wantNone(t, "the other one", o, 2)
	o, _, _ = segment.Open(d, file)
	readAll(t, "opened anew", o, 1, texts("a", "b")...)
	e, _ := segment.Create(disk.New(99), file, headOf(1))
	same(t, "P0.5: on another disk", e.Look(), plainLook(headOf(1)))
}

func TestMoved(t *testing.T) {
	d, s := laid(t, 1, texts("a")...)
	same(t, "Rename", d.Rename(file, "x"), api.OK)
	wantRead(t, "ahead of Moved", s, 1, api.ErrNone)
	was := d.Count()
	s.Moved("x")
	same(t, "P13.6: no operation", d.Count(), was)
	same(t, "P13.6: Look", s.Look(), under("x", plainLook(headOf(1), texts("a")...)))
	readAll(t, "moved", s, 1, texts("a")...)
	lsn, err := s.Put(texts("b", "c")...)
	same(t, "P13.6: Put", fmt.Sprint(lsn, err), "2 0")
	same(t, "P13.6: Sync", s.Sync(), api.OK)
	readAll(t, "moved", s, 1, texts("a", "b", "c")...)
	same(t, "P13.6: what was put lasts", d.Tails(d.Pending()), []api.Tail{{Name: "x"}})
	o, found, err := segment.Open(d, "x")
	same(t, "P13.2: Open", fmt.Sprint(found.Count, err), "3 0")
	same(t, "P13.6: Look", o.Look(), s.Look())

	same(t, "Rename", d.Rename("x", "y"), api.OK)
	s.Moved("y")
	readAll(t, "moved again", s, 1, texts("a", "b", "c")...)
}

func TestMovedThenTrim(t *testing.T) {
	b, _ := plainFile(headOf(1), texts("a")...)
	d, s, _ := opened(t, append(b, 1, 2, 3))
	same(t, "Rename", d.Rename(file, "x"), api.OK)
	s.Moved("x")
	same(t, "P13.4: Trim", s.Trim(), api.OK)
	same(t, "P13.4: the file", bytesOf(d, "x"), b)
	same(t, "P13.6: Look", s.Look(), under("x", plainLook(headOf(1), texts("a")...)))
}

// Moved takes any name: the disk answers for it.
func TestMovedToNoFile(t *testing.T) {
	for name, want := range map[string]api.Errno{"": api.ErrName, "B": api.ErrName, strings.Repeat("a", 65): api.ErrName, "b": api.ErrNone} {
		d, s := laid(t, 1, texts("a")...)
		was := tell(d)
		s.Moved(name)
		same(t, "P13.6: Look", s.Look(), under(name, plainLook(headOf(1), texts("a")...)))
		wantRead(t, "moved to no file", s, 1, want)
		s.Moved(file)
		readAll(t, "moved back", s, 1, texts("a")...)
		s.Moved(name)
		_, err := s.Put([]byte("b"))
		same(t, "P13.3: Put", err, want)
		same(t, "P13.3: it is broken", s.Look().Broken, true)
		same(t, "P13.3: the disk", tell(d), was)
	}
}

func TestNone(t *testing.T) {
	for what, s := range map[string]*segment.Segment{"nil": nil, "zero": {}} {
		for range 2 {
			for _, datas := range [][][]byte{nil, texts("a"), {big(4097)}} {
				lsn, err := s.Put(datas...)
				same(t, "P13.7: Put of "+what, fmt.Sprint(lsn, err), fmt.Sprint(0, api.ErrFailed))
			}
			same(t, "P13.7: Sync of "+what, s.Sync(), api.ErrFailed)
			same(t, "P13.7: Trim of "+what, s.Trim(), api.ErrFailed)
			for _, lsn := range []int64{math.MinInt64, -1, 0, 1, math.MaxInt64} {
				wantRead(t, what, s, lsn, api.ErrFailed)
			}
			same(t, "P13.7: Look of "+what, s.Look(), api.SegLook{})
			s.Moved(file)
		}
	}
}
