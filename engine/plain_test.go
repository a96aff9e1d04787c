package engine_test

import (
	"fmt"
	"math"
	"slices"
	"strings"
	"testing"

	"flume/api"
	"flume/disk"
	"flume/engine"
	"flume/store"
)

func same(t *testing.T, what string, got, want any) {
	t.Helper()
	if g, w := fmt.Sprintf("%+v", got), fmt.Sprintf("%+v", want); g != w {
		t.Fatalf("%s: %.2000s, want %.2000s", what, g, w)
	}
}

// plain is an engine by the chapter's words: lists, and states by their numbers. Its store is one of its own, on a disk of its own.
type plain struct {
	p          api.EngineParams
	d          *disk.Disk
	s          *store.Store
	calls      []*plainCall
	reserved   int64
	held, line []plainItem
	leader     int // a call's number; 0: none
	batch      []plainItem
	begun, now float64
	wanted     float64
	batches    int64
	failed     bool
	closing    bool
	cause      api.Errno
}

type plainItem struct {
	lsn  int64
	data string
}

func (i plainItem) size() int { return 16 + len(i.data) }

type plainCall struct {
	kind   int
	lsn    int64 // that it was begun with
	data   string
	state  int
	came   int   // the state from which it came to lead
	record int64 // the LSN that it got
	waits  int64 // the LSN for which it is in Wait
	result api.Result
}

func bytesOf(items []plainItem) int {
	n := 0
	for _, i := range items {
		n += i.size()
	}
	return n
}

// plainNew is a plain engine, if one is to be opened.
func plainNew(d *disk.Disk, p api.EngineParams) (*plain, api.Found, api.Errno) {
	s, found, err := store.Open(d, p.Store)
	if err != api.OK {
		return nil, found, err
	}
	return &plain{p: p, d: d, s: s, reserved: s.Look().Next, wanted: 1}, found, err
}

func (p *plain) begin(c api.Call) int {
	p.calls = append(p.calls, &plainCall{kind: c.Kind, lsn: c.LSN, data: string(c.Data), state: 1})
	return len(p.calls)
}

// goes is whether a batch with what is held goes at that time.
func (p *plain) goes(at float64) bool {
	n, bytes, age := len(p.held), bytesOf(p.held), at-p.begun
	return n >= p.p.Pace.Most || bytes >= p.p.Pace.Bytes || age >= p.p.Pace.Linger || n > 0 && float64(n) >= math.Min(math.Ceil(p.wanted), float64(p.p.Pace.Most))
}

// cameIn is whether a record stands in line no more.
func (p *plain) cameIn(lsn int64) bool {
	return !slices.ContainsFunc(p.line, func(i plainItem) bool { return i.lsn == lsn })
}

func (p *plain) isReady(id int) bool {
	c := p.calls[id-1]
	l := p.s.Look()
	switch c.state {
	case 1, 7, 8:
		return true
	case 2:
		return p.failed || p.cameIn(c.record) || p.leader == 0
	case 3:
		return l.Durable > c.waits || p.failed || p.leader == 0
	case 4:
		return l.Durable > c.lsn || p.failed || l.Closed || p.leader == 0 && c.lsn < p.reserved
	case 5:
		return p.leader == 0
	case 6:
		return p.goes(p.now)
	}
	return false
}

func (p *plain) ready() []int {
	var ids []int
	for i := range p.calls {
		if p.isReady(i + 1) {
			ids = append(ids, i+1)
		}
	}
	return ids
}

func (c *plainCall) done(err api.Errno, lsn int64, data []byte) {
	c.state, c.result = 9, api.Result{Err: err, LSN: lsn, Data: data}
}

func (p *plain) step(id int) {
	c := p.calls[id-1]
	switch c.state {
	case 1:
		p.start(c)
	case 2:
		if p.failed {
			c.done(api.ErrFailed, c.record, nil)
		} else if !p.cameIn(c.record) {
			p.leads(id, c)
		} else if c.kind == 2 {
			c.done(api.OK, c.record, nil)
		} else {
			c.state, c.waits = 3, c.record
		}
	case 3:
		if p.s.Look().Durable > c.waits {
			p.waited(c, api.OK)
		} else if p.failed {
			p.waited(c, api.ErrFailed)
		} else {
			p.leads(id, c)
		}
	case 4:
		p.tail(id, c)
	case 5:
		p.truncate(c)
	case 6:
		p.gather(c)
	case 7:
		p.write(c)
	case 8:
		p.flush(c)
	}
}

func (p *plain) start(c *plainCall) {
	l := p.s.Look()
	switch c.kind {
	case 1, 2:
		p.put(c)
	case 3:
		if p.closing {
			c.done(api.ErrClosed, 0, nil)
		} else if p.failed {
			c.done(api.ErrFailed, 0, nil)
		} else if l.Durable == p.reserved {
			c.done(api.OK, 0, nil)
		} else {
			c.state, c.waits = 3, p.reserved-1
		}
	case 4:
		if p.closing {
			c.done(api.ErrClosed, 0, nil)
		} else {
			p.tell(c)
		}
	case 5:
		if p.closing {
			c.done(api.ErrClosed, 0, nil)
		} else if c.lsn < l.First {
			c.done(api.ErrTruncated, 0, nil)
		} else if c.lsn < l.Durable {
			p.tell(c)
		} else {
			c.state = 4
		}
	case 6:
		p.truncate(c)
	case 7:
		if p.closing {
			c.done(api.ErrClosed, 0, nil)
			return
		}
		p.closing = true
		if p.failed {
			p.waited(c, api.ErrFailed)
		} else if l.Durable == p.reserved {
			p.waited(c, api.OK)
		} else {
			c.state, c.waits = 3, p.reserved-1
		}
	}
}

func (p *plain) put(c *plainCall) {
	i := plainItem{p.reserved, c.data}
	switch {
	case p.closing:
		c.done(api.ErrClosed, 0, nil)
	case p.failed:
		c.done(api.ErrFailed, 0, nil)
	case len(c.data) > 4096 || i.size() > p.p.QueueBytes:
		c.done(api.ErrLong, 0, nil)
	case p.reserved == 1<<63-1:
		c.done(api.ErrEnd, 0, nil)
	case len(p.line) == 1024:
		c.done(api.ErrMany, 0, nil)
	default:
		c.record = p.reserved
		p.reserved++
		p.line = append(p.line, i)
		p.comeIn()
		if !p.cameIn(c.record) {
			c.state = 2
		} else if c.kind == 2 {
			c.done(api.OK, c.record, nil)
		} else {
			c.state, c.waits = 3, c.record
		}
	}
}

// comeIn has those come in for whom there is room, one behind the other.
func (p *plain) comeIn() {
	for len(p.line) > 0 && len(p.held) < p.p.QueueCap && bytesOf(p.held)+p.line[0].size() <= p.p.QueueBytes {
		p.held = append(p.held, p.line[0])
		p.line = p.line[1:]
	}
}

func (p *plain) tell(c *plainCall) {
	rec, err := p.s.Read(c.lsn)
	c.done(err, rec.LSN, rec.Data)
}

// waited ends a call in Wait, or a Close at once.
func (p *plain) waited(c *plainCall, err api.Errno) {
	if c.kind == 7 {
		p.s.Close()
	}
	c.done(err, c.record, nil)
}

func (p *plain) tail(id int, c *plainCall) {
	l := p.s.Look()
	switch {
	case l.Closed:
		c.done(api.ErrClosed, 0, nil)
	case c.lsn < l.First:
		c.done(api.ErrTruncated, 0, nil)
	case c.lsn < l.Durable:
		p.tell(c)
	case p.failed:
		c.done(api.ErrFailed, 0, nil)
	default:
		p.leads(id, c)
	}
}

func (p *plain) truncate(c *plainCall) {
	switch {
	case p.closing:
		c.done(api.ErrClosed, 0, nil)
	case p.failed:
		c.done(api.ErrFailed, 0, nil)
	case p.leader != 0:
		c.state = 5
	default:
		err := p.s.TruncateFront(c.lsn)
		c.done(err, 0, nil)
		if err == api.ErrFailed {
			if p.s.Look().First == c.lsn {
				c.result.LSN = c.lsn
			}
			p.fails(p.s.Look().Cause)
		}
	}
}

func (p *plain) fails(cause api.Errno) {
	p.failed, p.cause = true, cause
	p.held, p.line, p.leader = nil, nil, 0
}

func (p *plain) leads(id int, c *plainCall) {
	p.leader, p.begun = id, p.now
	c.came, c.state = c.state, 6
}

func (p *plain) gather(c *plainCall) {
	n, bytes := 0, 0
	for n < len(p.held) && n < p.p.Pace.Most && (n == 0 || bytes+p.held[n].size() <= p.p.Pace.Bytes) {
		bytes += p.held[n].size()
		n++
	}
	p.batch = p.held[:n]
	p.held = slices.Clone(p.held[n:])
	p.comeIn()
	c.state = 7
}

// answered is what the leader does with an error of the store; false, if it is OK.
func (p *plain) answered(c *plainCall, err api.Errno) bool {
	if err == api.OK {
		return false
	}
	if err == api.ErrFailed {
		err = p.s.Look().Cause
	}
	c.state = c.came
	p.fails(err)
	return true
}

func (p *plain) write(c *plainCall) {
	var datas [][]byte
	for _, i := range p.batch {
		datas = append(datas, []byte(i.data))
	}
	_, err := p.s.Append(datas...)
	if !p.answered(c, err) {
		c.state = 8
	}
}

func (p *plain) flush(c *plainCall) {
	if p.answered(c, p.s.Sync()) {
		return
	}
	by := p.p.Pace.Alpha * (float64(len(p.batch)) - p.wanted)
	p.wanted = p.wanted + by
	p.batches++
	p.leader = 0
	c.state = c.came
}

func (p *plain) tick() bool {
	if p.leader == 0 || p.calls[p.leader-1].state != 6 || p.goes(p.now) {
		return false
	}
	at := p.now + (p.p.Pace.Linger - (p.now - p.begun))
	for !p.goes(at) {
		at = math.Nextafter(at, math.Inf(1))
	}
	p.now = at
	return true
}

func (p *plain) look() api.EngineLook {
	l := p.s.Look()
	return api.EngineLook{
		First: l.First, Durable: l.Durable, Reserved: p.reserved,
		Held: len(p.held), HeldBytes: bytesOf(p.held), Line: len(p.line), Leader: p.leader,
		Batches: p.batches, Now: p.now,
		Failed: p.failed, Closing: p.closing, Closed: l.Closed, Cause: p.cause,
	}
}

// twin is an engine and a plain one, each over a disk of its own, with which the same is done.
type twin struct {
	t      *testing.T
	e      *engine.Engine
	d      *disk.Disk
	p      *plain
	trace  []did
	steps  int
	ticks  int
	failed bool
	ops    api.Counts    // the disk's, when it failed
	owed   int64         // what was acknowledged lies below it
	stood  map[int]int64 // Reserved at the first step of a Sync or Close
}

// did is one of the things that were done with a twin, which is told where it goes wrong.
type did struct {
	what string
	id   int
	call api.Call
}

func (x *twin) history() string {
	var b strings.Builder
	for _, h := range x.trace {
		fmt.Fprintf(&b, "%s %d", h.what, h.id)
		if h.call.Kind != 0 {
			fmt.Fprintf(&b, " (kind %d, LSN %d, %d bytes)", h.call.Kind, h.call.LSN, len(h.call.Data))
		}
		b.WriteString("; ")
	}
	return b.String()
}

// over is a twin over a disk, and a copy of it; nil, if it is not to be opened.
func over(t *testing.T, d *disk.Disk, ps api.EngineParams) *twin {
	c := d.Copy()
	e, found, err := engine.New(d, ps)
	p, wantFound, wantErr := plainNew(c, ps)
	if found != wantFound || err != wantErr || (e == nil) != (p == nil) {
		t.Fatalf("P21.1: New: %+v, %v, want %+v, %v", found, err, wantFound, wantErr)
	}
	if p == nil {
		return nil
	}
	x := &twin{t: t, e: e, d: d, p: p, stood: map[int]int64{}}
	x.alike(did{what: "New"})
	return x
}

// opened is a twin over a log that was not there.
func opened(t *testing.T, ps api.EngineParams) *twin {
	t.Helper()
	return over(t, disk.New(1<<20), ps)
}

func (x *twin) wrong(what string, got, want any) {
	x.t.Helper()
	x.t.Fatalf("%s: %+v, want %+v, behind %s", what, got, want, x.history())
}

// alike holds all that the two tell against each other.
func (x *twin) alike(h did) {
	x.trace = append(x.trace, h)
	if got, want := x.e.Look(), x.p.look(); got != want {
		x.wrong("P21.4: Look", got, want)
	}
	if got, want := x.e.Ready(), x.p.ready(); !slices.Equal(got, want) {
		x.wrong("P21.3: Ready", got, want)
	}
	for i, c := range x.p.calls {
		if got := x.e.State(i + 1); got != c.state {
			x.wrong(fmt.Sprint("P21.4: State of ", i+1), got, c.state)
		}
		r, done := x.e.Result(i + 1)
		want := c.result
		if done != (c.state == 9) || r.Err != want.Err || r.LSN != want.LSN || string(r.Data) != string(want.Data) {
			x.wrong(fmt.Sprint("P21.3: Result of ", i+1), r, want)
		}
	}
	if got, want := x.d.Count(), x.p.d.Count(); got != want {
		x.wrong("the disk's operations", got, want)
	}
	l := x.e.Look()
	if l.Held > x.p.p.QueueCap || l.HeldBytes > x.p.p.QueueBytes || l.First > l.Durable || l.Durable > l.Reserved {
		x.wrong("what follows", l, "bounds")
	}
	if x.failed && x.ops != x.d.Count() {
		x.wrong("what follows: no operation once it failed", x.d.Count(), x.ops)
	}
	x.failed, x.ops = l.Failed, x.d.Count()
}

// arm arms faults on both disks.
func (x *twin) arm(fs ...api.Fault) {
	if x.d.Arm(fs...) != api.OK || x.p.d.Arm(fs...) != api.OK {
		x.t.Fatal("faults that may not be")
	}
}

// begin begins a call that may be, and gives its number.
func (x *twin) begin(c api.Call) int {
	id, err := x.e.Begin(c)
	if want := x.p.begin(c); id != want || err != api.OK {
		x.wrong("P21.2: Begin", fmt.Sprint(id, err), want)
	}
	x.alike(did{"Begin", id, c})
	return id
}

// step makes steps that go.
func (x *twin) step(ids ...int) {
	for _, id := range ids {
		if x.e.State(id) == api.StateStart {
			x.stood[id] = x.e.Look().Reserved
		}
		if err := x.e.Step(id); err != api.OK {
			x.wrong(fmt.Sprint("P21.3: Step of ", id), err, api.OK)
		}
		x.p.step(id)
		x.steps++
		x.alike(did{what: "Step", id: id})
		x.acknowledges(id)
	}
}

// acknowledges keeps what a call that is done says of what lasts.
func (x *twin) acknowledges(id int) {
	r, done := x.e.Result(id)
	if !done || r.Err != api.OK {
		return
	}
	switch x.p.calls[id-1].kind {
	case api.CallAppend:
		x.owed = max(x.owed, r.LSN+1)
	case api.CallSync, api.CallClose:
		x.owed = max(x.owed, x.stood[id])
	}
}

func (x *twin) tick() bool {
	goes := x.e.Tick()
	if want := x.p.tick(); goes != want {
		x.wrong("P21.4: Tick", goes, want)
	}
	if goes {
		x.ticks++
	}
	x.alike(did{what: "Tick"})
	return goes
}

// call begins a call and makes its first step.
func (x *twin) call(cs ...api.Call) {
	x.t.Helper()
	for _, c := range cs {
		x.step(x.begin(c))
	}
}

// alone makes a call to its end, while no other one is under way, and tells what came of it.
func (x *twin) alone(c api.Call) string {
	x.t.Helper()
	id := x.begin(c)
	for x.e.State(id) != api.StateDone {
		if slices.Contains(x.e.Ready(), id) {
			x.step(id)
		} else if !x.tick() {
			x.wrong("no call is stuck", id, "done")
		}
	}
	return x.told(id)
}

// told is what came of a call: its error's number, LSN and data; or the state in which it is.
func (x *twin) told(id int) string {
	r, done := x.e.Result(id)
	if !done {
		return fmt.Sprint("in ", x.e.State(id))
	}
	return fmt.Sprintf("%d %d %s", r.Err, r.LSN, r.Data)
}

// want holds what came of calls.
func (x *twin) want(what string, by map[int]string) {
	x.t.Helper()
	for id, want := range by {
		if got := x.told(id); got != want {
			x.wrong(fmt.Sprintf("%s: call %d", what, id), got, want)
		}
	}
}

// wantReady holds who is ready.
func (x *twin) wantReady(what string, ids ...int) {
	x.t.Helper()
	if got := x.e.Ready(); !slices.Equal(got, ids) {
		x.wrong(what+": Ready", got, ids)
	}
}

// filesAlike holds the files of the two disks against each other.
func (x *twin) filesAlike() {
	x.t.Helper()
	same(x.t, "the disk's files", x.d.Files(), x.p.d.Files())
	same(x.t, "the disk's lasting files", x.d.Lasting(), x.p.d.Lasting())
}

// The calls, by their words.
func app(data string) api.Call       { return api.Call{Kind: 1, Data: []byte(data)} }
func async(data string) api.Call     { return api.Call{Kind: 2, Data: []byte(data)} }
func syncs() api.Call                { return api.Call{Kind: 3} }
func read(lsn int64) api.Call        { return api.Call{Kind: 4, LSN: lsn} }
func next(lsn int64) api.Call        { return api.Call{Kind: 5, LSN: lsn} }
func truncate(lsn int64) api.Call    { return api.Call{Kind: 6, LSN: lsn} }
func closes() api.Call               { return api.Call{Kind: 7} }
func calls(l ...api.Call) []api.Call { return l }

// params are those of the chapter's examples.
func params() api.EngineParams {
	return api.EngineParams{Store: api.Params{SegMax: 4096, Base: 1}, QueueCap: 4, QueueBytes: 1000, Pace: api.PaceParams{Most: 4, Bytes: 1000, Linger: 0, Alpha: 0.5}}
}

// changed are those with some of them changed.
func changed(how func(p *api.EngineParams)) api.EngineParams {
	p := params()
	how(&p)
	return p
}
