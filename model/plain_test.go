package model_test

import (
	"fmt"
	"slices"
	"strings"
	"testing"

	"flume/api"
	"flume/model"
)

const (
	top     = 1<<63 - 1
	add     = api.CallAppend
	async   = api.CallAsync
	syncs   = api.CallSync
	read    = api.CallRead
	next    = api.CallNext
	trunc   = api.CallTruncate
	shut    = api.CallClose
	failed  = api.ErrFailed
	closed  = api.ErrClosed
	notYet  = api.ErrNotYet
	belowIt = api.ErrTruncated
	bounds  = api.ErrBounds
	many    = api.ErrMany
	down    = api.ErrDown
	long    = api.ErrLong
	end     = api.ErrEnd
)

func same(t *testing.T, what string, got, want any) {
	t.Helper()
	if g, w := fmt.Sprintf("%+v", got), fmt.Sprintf("%+v", want); g != w {
		t.Fatalf("%s: %.2000s, want %.2000s", what, g, w)
	}
}

func call(kind int, lsn int64, data string) api.Call {
	return api.Call{Kind: kind, LSN: lsn, Data: []byte(data)}
}

func result(err api.Errno, lsn int64, data string) api.Result {
	return api.Result{Err: err, LSN: lsn, Data: []byte(data)}
}

// plain is a state whose records are texts: it shares nothing with any other one that a walk could write into.
type plain struct {
	base, first, durable, next, limit int64
	records                           []string
	failed, closed                    bool
}

func plainOf(m api.Model) plain {
	p := plain{m.Base, m.First, m.Durable, m.Next, m.Limit, nil, m.Failed, m.Closed}
	for _, data := range m.Records {
		p.records = append(p.records, string(data))
	}
	return p
}

func (p plain) model() api.Model {
	m := api.Model{Base: p.base, First: p.first, Durable: p.durable, Next: p.next, Limit: p.limit, Failed: p.failed, Closed: p.closed}
	for _, data := range p.records {
		m.Records = append(m.Records, []byte(data))
	}
	return m
}

func (p plain) equal(q plain) bool {
	return p.base == q.base && p.first == q.first && p.durable == q.durable && p.next == q.next && p.limit == q.limit &&
		p.failed == q.failed && p.closed == q.closed && slices.Equal(p.records, q.records)
}

// asked is a call and its result.
type asked struct {
	c api.Call
	r api.Result
}

// row is a row of the chapter's table. Lsn and data say that the row names that field of the result.
type row struct {
	kinds     []int
	err       api.Errno
	lsn, data bool
	may       func(p plain, a asked) bool
	then      func(p *plain, a asked)
}

func (p plain) open(asked) bool  { return !p.closed }
func (p plain) works(asked) bool { return !p.closed && !p.failed }
func (p plain) lasts(a asked) bool {
	return p.works(a) && p.next <= p.limit
}

func (p plain) takes(a asked) bool {
	return p.works(a) && len(a.c.Data) <= 4096 && a.r.LSN == p.next && p.next < top
}

// raisable tells whether Durable may be raised so far.
func (p plain) raisable(to int64) bool { return to <= p.durable || to <= p.limit }

func (p plain) isRecord(a asked) bool {
	for i, data := range p.records {
		if lsn := p.base + int64(i); lsn == a.c.LSN && lsn >= p.base {
			return data == string(a.r.Data) && a.r.LSN == a.c.LSN
		}
	}
	return false
}

func (p *plain) stays(asked) {}
func (p *plain) fails(asked) { p.failed = true }
func (p *plain) shuts(asked) { p.closed = true }

func (p *plain) puts(a asked) {
	p.records = append(slices.Clone(p.records), string(a.c.Data))
	p.next++
}

func (p *plain) begins(a asked) {
	p.durable = max(p.durable, a.c.LSN)
	p.first = max(p.first, a.c.LSN)
}

func rows() []row {
	return slices.Concat(writing(), reading(), cutting(), []row{
		{[]int{add, async, syncs, read, next, trunc, shut}, closed, false, false, func(p plain, _ asked) bool { return p.closed }, (*plain).stays},
		{[]int{syncs}, api.OK, false, false, plain.lasts, (*plain).stays},
		{[]int{add, async, syncs, trunc}, failed, false, false, plain.open, (*plain).fails},
		{[]int{shut}, api.OK, false, false, plain.lasts, (*plain).shuts},
		{[]int{shut}, failed, false, false, plain.open, func(p *plain, _ asked) { p.failed, p.closed = true, true }},
	})
}

func writing() []row {
	return []row{
		{[]int{async}, api.OK, true, false, plain.takes, (*plain).puts},
		{[]int{add}, api.OK, true, false, func(p plain, a asked) bool { return p.takes(a) && a.r.LSN < p.limit }, (*plain).puts},
		{[]int{add, async}, failed, true, false, func(p plain, a asked) bool { return p.takes(a) && a.r.LSN >= p.durable }, func(p *plain, a asked) {
			p.puts(a)
			p.limit = min(p.limit, a.r.LSN)
		}},
		{[]int{add, async}, long, false, false, plain.works, (*plain).stays},
		{[]int{add, async}, many, false, false, plain.works, (*plain).stays},
		{[]int{add, async}, end, false, false, func(p plain, a asked) bool { return p.works(a) && p.next == top }, (*plain).stays},
	}
}

func reading() []row {
	return []row{
		{[]int{read, next}, api.OK, true, true, func(p plain, a asked) bool {
			return p.open(a) && a.c.LSN >= p.first && a.c.LSN < p.next && p.isRecord(a) && p.raisable(a.c.LSN+1)
		}, func(p *plain, a asked) { p.durable = max(p.durable, a.c.LSN+1) }},
		{[]int{read, next}, belowIt, false, false, func(p plain, a asked) bool { return p.open(a) && a.c.LSN < p.first }, (*plain).stays},
		{[]int{read}, notYet, false, false, func(p plain, a asked) bool {
			return p.open(a) && a.c.LSN >= p.durable && a.c.LSN >= p.first
		}, (*plain).stays},
		{[]int{next}, failed, false, false, func(p plain, a asked) bool { return p.open(a) && a.c.LSN >= p.durable }, (*plain).fails},
		{[]int{read, next}, down, false, false, func(p plain, a asked) bool {
			return p.open(a) && a.c.LSN >= p.first && a.c.LSN < p.next
		}, (*plain).stays},
	}
}

func cutting() []row {
	return []row{
		{[]int{trunc}, failed, true, false, func(p plain, a asked) bool {
			return p.open(a) && a.r.LSN == a.c.LSN && a.c.LSN > p.first && a.c.LSN <= p.next && p.raisable(a.c.LSN)
		}, func(p *plain, a asked) {
			p.begins(a)
			p.failed = true
		}},
		{[]int{trunc}, api.OK, false, false, func(p plain, a asked) bool {
			// Behind either 'or' Durable is raised, which in a state that comes of New is nothing up to First.
			return p.works(a) && (a.c.LSN <= p.first || a.c.LSN <= p.next) && p.raisable(a.c.LSN)
		}, (*plain).begins},
		{[]int{trunc}, bounds, false, false, func(p plain, a asked) bool {
			return p.works(a) && a.c.LSN > p.durable && a.c.LSN > p.first
		}, (*plain).stays},
		{[]int{trunc}, many, false, false, plain.works, (*plain).stays},
	}
}

// unused tells whether a call has something that its kind does not use.
func unused(c api.Call) bool {
	usesData := c.Kind == add || c.Kind == async
	usesLSN := c.Kind == read || c.Kind == next || c.Kind == trunc
	return !usesData && len(c.Data) > 0 || !usesLSN && c.LSN != 0
}

// of tells whether a row is of that call and result, as far as they are looked at without a state. Where one row names an LSN and another one none, an LSN of 0 is the other one's.
func (w row) of(a asked) bool {
	if !slices.Contains(w.kinds, a.c.Kind) || w.err != a.r.Err || unused(a.c) {
		return false
	}
	if w.lsn && w.err == failed && a.r.LSN == 0 {
		return false
	}
	return (w.lsn || a.r.LSN == 0) && (w.data || len(a.r.Data) == 0)
}

// rowOf is the one row of a call and its result, if there is one.
func rowOf(table []row, a asked) (row, bool) {
	at := slices.IndexFunc(table, func(w row) bool { return w.of(a) })
	if at < 0 {
		return row{}, false
	}
	return table[at], true
}

func (p plain) apply(table []row, c api.Call, r api.Result) (plain, bool) {
	a := asked{c, r}
	w, ok := rowOf(table, a)
	if !ok || !w.may(p, a) {
		return plain{}, false
	}
	w.then(&p, a)
	return p, true
}

func (p plain) half(table []row, c api.Call) (plain, bool) {
	switch {
	case unused(c):
		return plain{}, false
	case c.Kind == add || c.Kind == async:
		return p.apply(table, call(async, 0, string(c.Data)), result(api.OK, p.next, ""))
	case c.Kind == trunc:
		return p.apply(table, c, api.Result{})
	case c.Kind == shut && !p.closed:
		p.closed = true
		return p, true
	}
	return plain{}, false
}

// holds asks Apply of a call and its result, and holds its answer against the plain one's.
func holds(t *testing.T, table []row, p plain, c api.Call, r api.Result) (plain, bool) {
	want, may := p.apply(table, c, r)
	m, ok := model.Apply(p.model(), c, r)
	if got := plainOf(m); ok != may || !got.equal(want) {
		t.Fatalf("P23.2: %+v: %s, %s: %+v %v, want %+v %v", p, callText(c), resultText(r), got, ok, want, may)
	}
	return want, may
}

func holdsHalf(t *testing.T, table []row, p plain, c api.Call) (plain, bool) {
	want, may := p.half(table, c)
	m, ok := model.Half(p.model(), c)
	if got := plainOf(m); ok != may || !got.equal(want) {
		t.Fatalf("P23.3: %+v: %s: %+v %v, want %+v %v", p, callText(c), got, ok, want, may)
	}
	return want, may
}

func brief(data []byte) string {
	if len(data) > 8 {
		return fmt.Sprintf("%d bytes", len(data))
	}
	return fmt.Sprintf("%q", data)
}

func callText(c api.Call) string {
	name := "kind " + fmt.Sprint(c.Kind)
	if c.Kind >= add && c.Kind <= shut {
		name = strings.Fields("Append Async Sync Read Next Truncate Close")[c.Kind-1]
	}
	return fmt.Sprintf("%s %d %s", name, c.LSN, brief(c.Data))
}

func resultText(r api.Result) string {
	return fmt.Sprintf("{%d %d %s}", r.Err, r.LSN, brief(r.Data))
}
