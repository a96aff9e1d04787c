package wal_test

import (
	"fmt"
	"math"
	"slices"
	"strings"
	"testing"

	"flume/api"
	"flume/disk"
	"flume/store"
	"flume/wal"
)

func same(t *testing.T, what string, got, want any) {
	t.Helper()
	if g, w := fmt.Sprintf("%+v", got), fmt.Sprintf("%+v", want); g != w {
		t.Fatalf("%s: %.2000s, want %.2000s", what, g, w)
	}
}

// plain is a log by the chapter's words, without calls that make steps: each is done as it is called. Its store is one of its own, on a disk of its own.
type plain struct {
	p        api.EngineParams
	d        *disk.Disk
	s        *store.Store
	reserved int64
	held     []string // the data of the records that are reserved and not written: the last ones
	wanted   float64
	now      float64
	batches  int64
	cause    api.Errno
	closed   bool
	at       [2]int64 // where its cursors stand
}

func plainOpen(d *disk.Disk, p api.EngineParams) (*plain, api.Found, api.Errno) {
	s, found, err := store.Open(d, p.Store)
	if err != api.OK {
		return nil, found, err
	}
	return &plain{p: p, d: d, s: s, reserved: s.Look().Next, wanted: 1}, found, err
}

func sizeOf(datas ...string) int {
	n := 0
	for _, data := range datas {
		n += 16 + len(data)
	}
	return n
}

func (p *plain) durable() int64 { return p.s.Look().Durable }

// refuses is why a call that writes is refused, or OK.
func (p *plain) refuses() api.Errno {
	switch {
	case p.closed:
		return api.ErrClosed
	case p.cause != api.OK:
		return api.ErrFailed
	}
	return api.OK
}

// append is AppendAsync or, if it is to last, Append.
func (p *plain) append(data string, lasts bool) (int64, api.Errno) {
	if err := p.refuses(); err != api.OK {
		return 0, err
	}
	switch {
	case len(data) > 4096 || sizeOf(data) > p.p.QueueBytes:
		return 0, api.ErrLong
	case p.reserved == 1<<63-1:
		return 0, api.ErrEnd
	}
	lsn := p.reserved
	p.reserved++
	for len(p.held) == p.p.QueueCap || sizeOf(p.held...)+sizeOf(data) > p.p.QueueBytes {
		p.batch()
		if p.cause != api.OK {
			return 0, api.ErrFailed
		}
	}
	p.held = append(p.held, data)
	if lasts {
		if err := p.until(lsn + 1); err != api.OK {
			return 0, err
		}
	}
	return lsn, api.OK
}

// until has all below an LSN last.
func (p *plain) until(lsn int64) api.Errno {
	for p.durable() < lsn {
		if p.cause != api.OK {
			return api.ErrFailed
		}
		p.batch()
	}
	return api.OK
}

// batch waits for what a batch waits for, writes it, and syncs it.
func (p *plain) batch() {
	goes := func(age float64) bool {
		pace := p.p.Pace
		wanted := math.Min(math.Ceil(p.wanted), float64(pace.Most))
		return len(p.held) >= pace.Most || sizeOf(p.held...) >= pace.Bytes || age >= pace.Linger || len(p.held) > 0 && float64(len(p.held)) >= wanted
	}
	if !goes(0) {
		at := p.now + p.p.Pace.Linger
		for !goes(at - p.now) {
			at = math.Nextafter(at, math.Inf(1))
		}
		p.now = at
	}
	n := 1
	for n < len(p.held) && n < p.p.Pace.Most && sizeOf(p.held[:n+1]...) <= p.p.Pace.Bytes {
		n++
	}
	var datas [][]byte
	for _, data := range p.held[:n] {
		datas = append(datas, []byte(data))
	}
	p.held = slices.Clone(p.held[n:])
	_, err := p.s.Append(datas...)
	if err == api.OK {
		err = p.s.Sync()
	}
	if err != api.OK {
		p.fails(err)
		return
	}
	by := p.p.Pace.Alpha * (float64(n) - p.wanted)
	p.wanted += by
	p.batches++
}

func (p *plain) fails(err api.Errno) {
	p.cause = err
	if err == api.ErrFailed {
		p.cause = p.s.Look().Cause
	}
	p.held = nil
}

func (p *plain) sync() api.Errno {
	if err := p.refuses(); err != api.OK {
		return err
	}
	return p.until(p.reserved)
}

func (p *plain) read(lsn int64) (api.Record, api.Errno) {
	if p.closed {
		return api.Record{}, api.ErrClosed
	}
	return p.s.Read(lsn)
}

func (p *plain) truncate(lsn int64) api.Errno {
	if err := p.refuses(); err != api.OK {
		return err
	}
	err := p.s.TruncateFront(lsn)
	if err == api.ErrFailed {
		p.fails(err)
	}
	return err
}

func (p *plain) close() api.Errno {
	if p.closed {
		return api.ErrClosed
	}
	err := p.sync()
	p.s.Close()
	p.closed = true
	return err
}

// next is what a cursor at an LSN tells.
func (p *plain) next(lsn int64) (api.Record, api.Errno) {
	switch {
	case p.closed:
		return api.Record{}, api.ErrClosed
	case lsn >= p.reserved && p.cause != api.OK:
		return api.Record{}, api.ErrFailed
	case lsn >= p.reserved:
		return api.Record{}, api.ErrNotYet
	case lsn < p.s.Look().First:
		return api.Record{}, api.ErrTruncated
	}
	if err := p.until(lsn + 1); err != api.OK {
		return api.Record{}, err
	}
	return p.s.Read(lsn)
}

// all is what an iterator from an LSN tells.
func (p *plain) all(lsn int64) []api.Record {
	var recs []api.Record
	if p.closed {
		return nil
	}
	for lsn = max(lsn, p.s.Look().First); lsn < p.durable(); lsn++ {
		rec, err := p.s.Read(lsn)
		if err != api.OK {
			break
		}
		recs = append(recs, rec)
	}
	return recs
}

func (p *plain) look() api.EngineLook {
	l := p.s.Look()
	return api.EngineLook{
		First: l.First, Durable: l.Durable, Reserved: p.reserved,
		Held: len(p.held), HeldBytes: sizeOf(p.held...), Batches: p.batches, Now: p.now,
		Failed: p.cause != api.OK, Closing: p.closed, Closed: p.closed, Cause: p.cause,
	}
}

// op is a call of a log, or of one of its two cursors.
type op struct {
	what   string
	cursor int
	lsn    int64
	data   string
}

func app(data string) op               { return op{what: "Append", data: data} }
func async(data string) op             { return op{what: "AppendAsync", data: data} }
func syncs() op                        { return op{what: "Sync"} }
func read(lsn int64) op                { return op{what: "Read", lsn: lsn} }
func truncate(lsn int64) op            { return op{what: "TruncateFront", lsn: lsn} }
func closes() op                       { return op{what: "Close"} }
func all(lsn int64) op                 { return op{what: "All", lsn: lsn} }
func next(cursor int) op               { return op{what: "Next", cursor: cursor} }
func at(cursor int) op                 { return op{what: "At", cursor: cursor} }
func stand(cursor int, lsn int64) op   { return op{what: "Stand", cursor: cursor, lsn: lsn} }
func nextOf(lsn int64) op              { return op{what: "From.Next", lsn: lsn} }
func ops(l ...op) []op                 { return l }
func told(x any, err api.Errno) string { return fmt.Sprint(int(err), " ", x) }

func (o op) String() string {
	if len(o.data) > 9 {
		return fmt.Sprintf("%s of %d bytes", o.what, len(o.data))
	}
	return fmt.Sprintf("%s(%d, %d, %q)", o.what, o.cursor, o.lsn, o.data)
}

// toldRecords are records as they are told, one of them as "LSN data".
func toldRecords(recs ...api.Record) string {
	var l []string
	for _, rec := range recs {
		l = append(l, fmt.Sprintf("%d %s", rec.LSN, rec.Data))
	}
	return strings.Join(l, ", ")
}

func toldRecord(rec api.Record, err api.Errno) string { return told(toldRecords(rec), err) }
func toldLSN(lsn int64, err api.Errno) string         { return told(lsn, err) }

// twin is a log with two cursors and a plain one, each over a disk of its own, with which the same is done.
type twin struct {
	t       *testing.T
	l       *wal.Log
	d       *disk.Disk
	p       *plain
	cursors [2]*wal.Cursor
	history []op
	failed  bool
	counts  api.Counts       // the disk's, when it failed
	owed    int64            // what was acknowledged lies below it
	given   map[int64]string // what each LSN was given the last time
	asked   map[int64]int    // the fronts that were asked for
}

// over is a twin over a disk, and a copy of it; nil, if it is not to be opened.
func over(t *testing.T, d *disk.Disk, ps api.EngineParams) *twin {
	t.Helper()
	c := d.Copy()
	l, found, err := wal.Open(d, ps)
	p, wantFound, wantErr := plainOpen(c, ps)
	if found != wantFound || err != wantErr || (l == nil) != (p == nil) {
		t.Fatalf("P22.1: Open: %+v, %v, want %+v, %v", found, err, wantFound, wantErr)
	}
	if p == nil {
		return nil
	}
	x := &twin{t: t, l: l, d: d, p: p, given: map[int64]string{}, asked: map[int64]int{}}
	for i := range x.cursors {
		p.at[i] = l.Look().First
		x.cursors[i] = l.From(p.at[i])
	}
	x.alike()
	return x
}

// opened is a twin over a log that was not there.
func opened(t *testing.T, ps api.EngineParams) *twin {
	t.Helper()
	return over(t, disk.New(1<<20), ps)
}

func (x *twin) wrong(what string, got, want any) {
	x.t.Helper()
	x.t.Fatalf("%s: %+v, want %+v, behind %v", what, got, want, x.history)
}

// alike holds all that the two tell against each other.
func (x *twin) alike() {
	x.t.Helper()
	l := x.l.Look()
	if want := x.p.look(); l != want {
		x.wrong("P22.5: Look", l, want)
	}
	if got, want := x.d.Count(), x.p.d.Count(); got != want {
		x.wrong("the disk's operations", got, want)
	}
	for i, c := range x.cursors {
		if got, want := c.At(), x.p.at[i]; got != want {
			x.wrong(fmt.Sprint("P22.3: At of ", i), got, want)
		}
	}
	if l.Line != 0 || l.Leader != 0 || l.Closing != l.Closed {
		x.wrong("each call was made to its end", l, "nobody waits")
	}
	if x.failed && x.counts != x.d.Count() {
		x.wrong("no operation once it failed", x.d.Count(), x.counts)
	}
	x.failed, x.counts = l.Failed, x.d.Count()
}

// do calls both, and gives what was told.
func (x *twin) do(o op) string {
	x.t.Helper()
	x.history = append(x.history, o)
	was := x.l.Look()
	got, want := x.logs(o), x.plains(o)
	if got != want {
		x.wrong(o.String(), fmt.Sprintf("%.300q", got), fmt.Sprintf("%.300q", want))
	}
	x.alike()
	if x.l.Look().Reserved > was.Reserved {
		x.given[was.Reserved] = o.data
	}
	x.acknowledges(o, got[:2] == "0 ", was.Reserved)
	return got
}

// logs has the log do it; everything that is not said of a record ends with its error's number ahead.
func (x *twin) logs(o op) string {
	c := x.cursors[o.cursor]
	switch o.what {
	case "Append":
		return toldLSN(x.l.Append([]byte(o.data)))
	case "AppendAsync":
		return toldLSN(x.l.AppendAsync([]byte(o.data)))
	case "Sync":
		return told("", x.l.Sync())
	case "Read":
		return toldRecord(x.l.Read(o.lsn))
	case "TruncateFront":
		return told("", x.l.TruncateFront(o.lsn))
	case "Close":
		return told("", x.l.Close())
	case "All":
		return told(toldRecords(slices.Collect(x.l.All(o.lsn))...), api.OK)
	case "Next":
		return toldRecord(c.Next())
	case "At":
		return told(c.At(), api.OK)
	case "Stand":
		c.Stand(o.lsn)
	case "From.Next":
		return toldRecord(x.l.From(o.lsn).Next())
	}
	return told("", api.OK)
}

func (x *twin) plains(o op) string {
	p := x.p
	switch o.what {
	case "Append", "AppendAsync":
		return toldLSN(p.append(o.data, o.what == "Append"))
	case "Sync":
		return told("", p.sync())
	case "Read":
		return toldRecord(p.read(o.lsn))
	case "TruncateFront":
		return told("", p.truncate(o.lsn))
	case "Close":
		return told("", p.close())
	case "All":
		return told(toldRecords(p.all(o.lsn)...), api.OK)
	case "Next":
		rec, err := p.next(p.at[o.cursor])
		if err == api.OK {
			p.at[o.cursor]++
		}
		return toldRecord(rec, err)
	case "At":
		return told(p.at[o.cursor], api.OK)
	case "Stand":
		p.at[o.cursor] = o.lsn
	case "From.Next":
		return toldRecord(p.next(o.lsn))
	}
	return told("", api.OK)
}

// acknowledges keeps what an answer says of what lasts.
func (x *twin) acknowledges(o op, ok bool, reserved int64) {
	switch o.what {
	case "TruncateFront":
		x.asked[o.lsn] = 1
	case "Append":
		if ok {
			x.owed = reserved + 1
		}
	case "Sync", "Close":
		if ok {
			x.owed = reserved
		}
	case "Next":
		if ok {
			x.owed = max(x.owed, x.cursors[o.cursor].At())
		}
	}
}

// arm arms faults on both disks.
func (x *twin) arm(fs ...api.Fault) {
	x.t.Helper()
	if x.d.Arm(fs...) != api.OK || x.p.d.Arm(fs...) != api.OK {
		x.t.Fatal("faults that may not be")
	}
}

// wants does some calls, each of which must be answered so.
func (x *twin) wants(what string, pairs ...any) {
	x.t.Helper()
	for i := 0; i < len(pairs); i += 2 {
		if got := x.do(pairs[i].(op)); got != pairs[i+1] {
			x.wrong(fmt.Sprintf("%s: %v", what, pairs[i]), got, pairs[i+1])
		}
	}
}

// filesAlike holds the files of the two disks against each other.
func (x *twin) filesAlike() {
	x.t.Helper()
	same(x.t, "the disk's files", x.d.Files(), x.p.d.Files())
	same(x.t, "the disk's lasting files", x.d.Lasting(), x.p.d.Lasting())
}

func long(n int) string { return strings.Repeat("x", n) }

// params are those of the chapter's examples, with batches of up to 8.
func params() api.EngineParams {
	return api.EngineParams{Store: api.Params{SegMax: 4096, Base: 1}, QueueCap: 2, QueueBytes: 1000, Pace: api.PaceParams{Most: 8, Bytes: 1000, Linger: 0, Alpha: 0.5}}
}

// changed are those with some of them changed.
func changed(how func(p *api.EngineParams)) api.EngineParams {
	p := params()
	how(&p)
	return p
}

// lasting is a twin over a log that has so many records, r1, r2 and so on, all of which last.
func lasting(t *testing.T, ps api.EngineParams, many int) *twin {
	t.Helper()
	x := opened(t, ps)
	for i := range many {
		lsn := ps.Store.Base + int64(i)
		x.wants("Append", app(fmt.Sprint("r", lsn)), fmt.Sprint("0 ", lsn))
	}
	return x
}
