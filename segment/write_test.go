package segment_test

import (
	"fmt"
	"math"
	"slices"
	"testing"

	"flume/api"
	"flume/disk"
	"flume/segment"
)

// checkPut puts records into a segment that has some, and looks at all that comes of it.
func checkPut(t *testing.T, what string, base int64, had, datas [][]byte) {
	t.Helper()
	d, s := laid(t, base, had...)
	was := d.Count()
	lsn, err := s.Put(datas...)
	same(t, "P13.3: "+what, fmt.Sprint(lsn, err), fmt.Sprint(base+int64(len(had)), 0))
	all := slices.Concat(had, datas)
	b, _ := plainFile(headOf(base), all...)
	n := int64(len(b) - 32 - int(was.Bytes-32))
	want := was
	want.Appends, want.All, want.Bytes = want.Appends+1, want.All+1, want.Bytes+n
	same(t, "P13.3: one Append: "+what, d.Count(), want)
	same(t, "P13.3: the file: "+what, string(bytesOf(d, file)), string(b))
	same(t, "P13.6: Look: "+what, s.Look(), plainLook(headOf(base), all...))
	readAll(t, what, s, base, all...)
}

func TestPut(t *testing.T) {
	many := make([][]byte, 1000)
	for i := range many {
		many[i] = []byte(fmt.Sprint("record ", i))
	}
	for _, had := range [][][]byte{nil, texts("a"), {nil, big(4096), big(3)}} {
		checkPut(t, "one", 1, had, texts("a"))
		checkPut(t, "an empty one", 1, had, [][]byte{nil})
		checkPut(t, "another empty one", 1, had, [][]byte{{}})
		checkPut(t, "two", 5, had, texts("a", "bc"))
		checkPut(t, "4,095 bytes", 5, had, [][]byte{big(4095)})
		checkPut(t, "4,096 bytes", 5, had, [][]byte{big(4096)})
		checkPut(t, "4,096 bytes between others", 5, had, [][]byte{nil, big(4096), big(4096), big(1)})
		checkPut(t, "many empty ones", 7, had, make([][]byte, 300))
		checkPut(t, "many", 1<<40, had, many)
		checkPut(t, "many to the last LSN", api.MaxLSN-int64(len(had)+len(many))+1, had, many)
	}
}

// wantPut puts records that are to be refused: no operation is done, and nothing has changed.
func wantPut(t *testing.T, what string, d *disk.Disk, s *segment.Segment, datas [][]byte, want api.Errno) {
	t.Helper()
	was, look := tell(d), s.Look()
	lsn, err := s.Put(datas...)
	same(t, "P13.3: "+what, fmt.Sprint(lsn, err), fmt.Sprint(0, want))
	same(t, "P13.3: no operation: "+what, tell(d), was)
	same(t, "P13.3: nothing has changed: "+what, s.Look(), look)
}

func TestPutRefused(t *testing.T) {
	d, s := laid(t, 1, texts("a")...)
	arm(t, d, api.Fault{At: 1, Kind: api.FaultIO}) // It befalls none of those.
	wantPut(t, "none", d, s, nil, api.ErrArg)
	wantPut(t, "none, of an empty list", d, s, [][]byte{}, api.ErrArg)
	long := big(4097)
	for _, datas := range [][][]byte{{long}, {long, nil}, {nil, long}, {nil, long, nil}, {big(4096), long}, {big(1 << 20)}} {
		wantPut(t, "4,097 bytes", d, s, datas, api.ErrLong)
	}
	arm(t, d)
	lsn, err := s.Put(big(4096))
	same(t, "P13.3: behind what was refused", fmt.Sprint(lsn, err), "2 0")
	readAll(t, "behind what was refused", s, 1, []byte("a"), big(4096))
}

func TestPutAtTheEnd(t *testing.T) {
	for left := range 5 {
		base := math.MaxInt64 - int64(left)
		d, s := laid(t, base)
		for n := left + 1; n < left+4; n++ {
			wantPut(t, "beyond the last LSN", d, s, make([][]byte, n), api.ErrEnd)
		}
		wantPut(t, "none, at the end", d, s, nil, api.ErrArg)
		wantPut(t, "4,097 bytes, at the end", d, s, append(make([][]byte, left), big(4097)), api.ErrLong)
		if left > 0 {
			checkPut(t, "all that are left", base, nil, make([][]byte, left))
			checkPut(t, "the last of them", base, make([][]byte, left-1), texts("z"))
			lsn, err := s.Put(make([][]byte, left)...)
			same(t, "P13.3: all that are left", fmt.Sprint(lsn, err), fmt.Sprint(base, 0))
		}
		same(t, "P13.6: Next", s.Look().Next, math.MaxInt64)
		wantPut(t, "behind the last LSN", d, s, texts("a"), api.ErrEnd)
		wantPut(t, "none, behind the last LSN", d, s, nil, api.ErrArg)
		same(t, "P13.4: Sync", s.Sync(), api.OK)
		o, found, err := segment.Open(d, file)
		same(t, "P13.2: Open", fmt.Sprint(found.Count, err), fmt.Sprint(left, 0))
		wantPut(t, "behind the last LSN, opened anew", d, o, texts("a"), api.ErrEnd)
	}
}

// checkBroken looks at a segment that an operation broke, with those records.
func checkBroken(t *testing.T, what string, d *disk.Disk, s *segment.Segment, datas ...[]byte) {
	t.Helper()
	same(t, "P13.6: Look: "+what, s.Look(), broken(plainLook(headOf(1), datas...)))
	was := tell(d)
	for range 2 {
		for _, list := range [][][]byte{texts("x"), nil, {big(4097)}} {
			wantPut(t, "broken: "+what, d, s, list, api.ErrFailed)
		}
		same(t, "P13.4: Sync: "+what, s.Sync(), api.ErrFailed)
		same(t, "P13.4: Trim: "+what, s.Trim(), api.ErrFailed)
	}
	same(t, "P13.3, P13.4: no operation: "+what, tell(d), was)
	if d.Up() {
		readAll(t, "broken: "+what, s, 1, datas...)
	} else {
		wantRead(t, "down: "+what, s, 1, api.ErrDown)
		wantNone(t, "down: "+what, s, 0, 1+int64(len(datas)))
	}
}

func TestPutWithFaults(t *testing.T) {
	for kind := api.FaultIO; kind <= api.FaultPanic; kind++ {
		for _, part := range []int{0, 1, 16, 17, 18, 34, 35, 36, 1000} {
			d, s := laid(t, 1, texts("a")...)
			was := d.Count()
			arm(t, d, api.Fault{At: 1, Kind: kind, Part: part})
			var lsn int64
			how := ended(func() (err api.Errno) { lsn, err = s.Put(texts("b", "cd")...); return })
			what := fmt.Sprintf("fault %d, part %d", kind, part)
			same(t, "P13.3: "+what, how, fails(kind, was.All+1))
			same(t, "P13.3: no LSN: "+what, lsn, 0)
			b, _ := plainFile(headOf(1), texts("a", "b", "cd")...)
			same(t, "P13.3: the file: "+what, bytesOf(d, file), b[:min(49+part, len(b))])
			same(t, "P13.3: one operation: "+what, d.Count().All, was.All+1)
			checkBroken(t, what, d, s, texts("a")...)
		}
	}
}

func TestSyncWithFaults(t *testing.T) {
	for kind := api.FaultIO; kind <= api.FaultPanic; kind++ {
		d, s := laid(t, 1, texts("a")...)
		s.Put(texts("b")...)
		was := d.Count()
		arm(t, d, api.Fault{At: 1, Kind: kind, Part: 5})
		how := ended(s.Sync)
		what := fmt.Sprint("fault ", kind)
		same(t, "P13.4: one operation: "+what, d.Count().All, was.All+1)
		if kind == api.FaultFull {
			same(t, "P13.4: Sync takes no room", how, "0")
			same(t, "P13.4: it is not broken", s.Look(), plainLook(headOf(1), texts("a", "b")...))
			same(t, "P13.4: it lasts", d.Tails(0), []api.Tail{{Name: file}})
			continue
		}
		same(t, "P13.4: "+what, how, fails(kind, was.All+1))
		same(t, "P13.4: it does not last: "+what, d.Tails(0), []api.Tail{{Name: file, N: 17}})
		checkBroken(t, what, d, s, texts("a", "b")...)
	}
}

func TestSync(t *testing.T) {
	d, s := laid(t, 1, texts("a")...)
	same(t, "P13.4: nothing to sync", s.Sync(), api.OK)
	s.Put(texts("b", "c")...)
	same(t, "P13.3: it need not last yet", d.Tails(0), []api.Tail{{Name: file, N: 34}})
	was, look := d.Count(), s.Look()
	same(t, "P13.4: Sync", s.Sync(), api.OK)
	was.Syncs, was.All = was.Syncs+1, was.All+1
	same(t, "P13.4: one operation", d.Count(), was)
	same(t, "P13.4: it lasts", d.Tails(0), []api.Tail{{Name: file}})
	same(t, "P13.6: Look", s.Look(), look)
}

// A disk that refuses breaks the segment too, though it counts no operation.
func TestRefusedByTheDisk(t *testing.T) {
	spoil := map[string]struct {
		do   func(d *disk.Disk, s *segment.Segment)
		want api.Errno
	}{
		"down": {func(d *disk.Disk, s *segment.Segment) {
			d.Arm(api.Fault{At: 1, Kind: api.FaultPower})
			d.SyncDir()
		}, api.ErrDown},
		"removed":  {func(d *disk.Disk, s *segment.Segment) { d.Remove(file) }, api.ErrNone},
		"misnamed": {func(d *disk.Disk, s *segment.Segment) { s.Moved("?") }, api.ErrName},
	}
	for what, c := range spoil {
		for call, do := range map[string]func(s *segment.Segment) api.Errno{
			"Put":  func(s *segment.Segment) api.Errno { _, err := s.Put(nil); return err },
			"Sync": (*segment.Segment).Sync,
		} {
			d, s := laid(t, 1, texts("a")...)
			c.do(d, s)
			was := tell(d)
			same(t, "P13.3, P13.4: "+call+", "+what, do(s), c.want)
			same(t, "P13.3, P13.4: it is broken: "+call+", "+what, s.Look().Broken, true)
			same(t, "P13.3, P13.4: for good: "+call+", "+what, do(s), api.ErrFailed)
			same(t, "P13.4: Trim: "+call+", "+what, s.Trim(), api.ErrFailed)
			same(t, "P13.3, P13.4: the disk: "+call+", "+what, tell(d), was)
		}
	}
}

func TestPutOnAFullDisk(t *testing.T) {
	b, _ := plainFile(headOf(1), texts("a", "bc")...)
	for most := 49; most < len(b); most++ {
		d := disk.New(most)
		s, _ := segment.Create(d, file, headOf(1))
		s.Put(texts("a")...)
		lsn, err := s.Put(texts("bc")...)
		same(t, "P13.3: Put on a full disk", fmt.Sprint(lsn, err), fmt.Sprint(0, api.ErrFull))
		same(t, "P13.3: what fits", bytesOf(d, file), b[:most])
		checkBroken(t, "a full disk", d, s, texts("a")...)
	}
	d := disk.New(len(b))
	s, _ := segment.Create(d, file, headOf(1))
	lsn, err := s.Put(texts("a", "bc")...)
	same(t, "P13.3: Put that just fits", fmt.Sprint(lsn, err), "1 0")
}

// checkTrim opens a file with bytes behind its records, and trims it.
func checkTrim(t *testing.T, what string, rest []byte, datas ...[]byte) {
	t.Helper()
	b, _ := plainFile(headOf(1), datas...)
	d, s, _ := opened(t, slices.Concat(b, rest))
	look := plainLook(headOf(1), datas...)
	same(t, "P13.3: broken since Open: "+what, s.Look(), broken(look))
	for _, list := range [][][]byte{texts("x"), nil, {big(4097)}} {
		wantPut(t, "broken since Open: "+what, d, s, list, api.ErrFailed)
	}
	was := d.Count()
	same(t, "P13.4: Sync: "+what, s.Sync(), api.ErrFailed)
	readAll(t, "broken since Open: "+what, s, 1, datas...)
	same(t, "P13.4: no operation: "+what, d.Count(), was)

	same(t, "P13.4: Trim: "+what, s.Trim(), api.OK)
	was.Cuts, was.All = was.Cuts+1, was.All+1
	same(t, "P13.4: one Cut: "+what, d.Count(), was)
	same(t, "P13.4: the file: "+what, string(bytesOf(d, file)), string(b))
	same(t, "P13.4: not broken any more: "+what, s.Look(), look)
	same(t, "P13.4: Trim again: "+what, s.Trim(), api.OK)
	same(t, "P13.4: no operation: "+what, d.Count(), was)

	lsn, err := s.Put(texts("new")...)
	same(t, "P13.4: Put: "+what, fmt.Sprint(lsn, err), fmt.Sprint(1+len(datas), 0))
	same(t, "P13.4: Sync: "+what, s.Sync(), api.OK)
	readAll(t, "trimmed: "+what, s, 1, append(slices.Clone(datas), []byte("new"))...)
	o, found, _ := segment.Open(d, file)
	same(t, "P13.2: opened anew: "+what, found.Why, api.WhyEnd)
	same(t, "P13.6: opened anew: "+what, o.Look(), s.Look())
}

func TestTrim(t *testing.T) {
	for _, datas := range [][][]byte{nil, texts("a"), {nil, big(4096), nil}} {
		for _, n := range []int{1, 15, 16, 100, 5000} {
			checkTrim(t, fmt.Sprint(len(datas), " records, bytes behind: ", n), make([]byte, n), datas...)
		}
		_, seed := plainFile(headOf(1), datas...)
		next, _ := plainFrame(seed, 1+int64(len(datas)), []byte("next"))
		checkTrim(t, "a frame cut short", next[:19], datas...)
	}
}

// A segment that is whole needs no Trim: it does nothing.
func TestTrimOfAWholeOne(t *testing.T) {
	d, s := laid(t, 1, texts("a")...)
	s.Put(texts("b")...)
	o, _, _ := segment.Open(d, file)
	arm(t, d, api.Fault{At: 1, Kind: api.FaultIO})
	was := tell(d)
	for _, x := range []*segment.Segment{s, o} {
		look := x.Look()
		same(t, "P13.4: Trim of a whole one", x.Trim(), api.OK)
		same(t, "P13.6: Look", x.Look(), look)
	}
	same(t, "P13.4: no operation", tell(d), was)
}

func TestTrimWithFaults(t *testing.T) {
	for kind := api.FaultIO; kind <= api.FaultPanic; kind++ {
		b, _ := plainFile(headOf(1), texts("a")...)
		d, s, _ := opened(t, append(slices.Clone(b), "rest"...))
		was := d.Count()
		arm(t, d, api.Fault{At: 1, Kind: kind})
		how := ended(s.Trim)
		what := fmt.Sprint("fault ", kind)
		same(t, "P13.4: one operation: "+what, d.Count().All, was.All+1)
		if kind == api.FaultFull {
			same(t, "P13.4: Trim takes no room", how, "0")
			same(t, "P13.4: the file", bytesOf(d, file), b)
			continue
		}
		same(t, "P13.4: Trim: "+what, how, fails(kind, was.All+1))
		look := plainLook(headOf(1), texts("a")...)
		same(t, "P13.4: still broken: "+what, s.Look(), broken(look))
		same(t, "P13.4: the file: "+what, bytesOf(d, file), append(slices.Clone(b), "rest"...))
		wantPut(t, "still broken: "+what, d, s, texts("b"), api.ErrFailed)
		same(t, "P13.4: Sync: "+what, s.Sync(), api.ErrFailed)
		if kind == api.FaultPower {
			same(t, "P13.4: Trim while it is down", s.Trim(), api.ErrDown)
			d.Crash(api.Fate{})
		}
		same(t, "P13.4: Trim again: "+what, s.Trim(), api.OK)
		same(t, "P13.4: the file: "+what, bytesOf(d, file), b)
		same(t, "P13.4: not broken any more: "+what, s.Look(), look)
	}
}

func TestTrimRefusedByTheDisk(t *testing.T) {
	b, _ := plainFile(headOf(1), texts("a")...)
	d, s, _ := opened(t, append(slices.Clone(b), "rest"...))
	s.Moved("?")
	same(t, "P13.4: Trim of no name", s.Trim(), api.ErrName)
	s.Moved("other")
	same(t, "P13.4: Trim of no file", s.Trim(), api.ErrNone)
	s.Moved(file)
	d.Cut(file, len(b)-1)
	was := tell(d)
	same(t, "P13.4: Trim of a file that was cut beneath", s.Trim(), api.ErrBounds)
	same(t, "P13.4: still broken", s.Look().Broken, true)
	same(t, "P13.4: nothing is done", tell(d), was)
	d.Append(file, b[len(b)-1:])
	same(t, "P13.4: Trim of a file that is whole again", s.Trim(), api.OK)
	same(t, "P13.4: not broken any more", s.Look(), plainLook(headOf(1), texts("a")...))
}

// What an operation broke Trim does not mend, though it was broken since Open once.
func TestTrimOfOneBrokenLater(t *testing.T) {
	for _, kind := range []int{api.FaultIO, api.FaultPower, api.FaultPanic} {
		for call, do := range map[string]func(s *segment.Segment) api.Errno{
			"Put":  func(s *segment.Segment) api.Errno { _, err := s.Put([]byte("b")); return err },
			"Sync": (*segment.Segment).Sync,
		} {
			b, _ := plainFile(headOf(1), texts("a")...)
			d, s, _ := opened(t, append(b, "rest"...))
			same(t, "P13.4: Trim", s.Trim(), api.OK)
			arm(t, d, api.Fault{At: 1, Kind: kind, Part: 3})
			op := d.Count().All + 1
			same(t, "P13.3, P13.4: "+call, ended(func() api.Errno { return do(s) }), fails(kind, op))
			checkBroken(t, "broken later, by "+call, d, s, texts("a")...)
		}
	}
}

// A broken one stays broken, also behind a loss of power and with a disk that does all again: the file must be opened anew.
func TestBrokenForGood(t *testing.T) {
	d, s := laid(t, 1, texts("a")...)
	arm(t, d, api.Fault{At: 1, Kind: api.FaultPower, Part: 5})
	_, err := s.Put([]byte("b"))
	same(t, "P13.3: Put", err, api.ErrDown)
	d.Crash(api.Fate{Keeps: []api.Keep{{N: 5}}})
	checkBroken(t, "behind a Crash", d, s, texts("a")...)
	o, found, err := segment.Open(d, file)
	same(t, "P13.2: Open", fmt.Sprint(found.Count, found.Why, err), fmt.Sprint(1, api.WhyShort, 0))
	same(t, "P13.4: Trim", o.Trim(), api.OK)
	lsn, err := o.Put([]byte("c"))
	same(t, "P13.3: Put", fmt.Sprint(lsn, err), "2 0")
	readAll(t, "opened anew", o, 1, texts("a", "c")...)
	checkBroken(t, "the old one", d, s, texts("a")...)
}
