package model_test

import (
	"fmt"
	"math"
	"slices"
	"strings"
	"testing"

	"flume/api"
	"flume/model"
)

// wanted is a state, a call with its result, and the state then; a nil one, where it may not be.
type wanted struct {
	in   plain
	c    api.Call
	r    api.Result
	then func(*plain)
}

// in is the records 1 to 4, a to d, of which 1 and 2 are told to last, with First 2; and what is changed in that.
func in(changes ...func(*plain)) plain {
	p := stateAt(5, top)
	for _, change := range changes {
		change(&p)
	}
	return p
}

func limit(n int64) func(*plain) { return func(p *plain) { p.limit = n } }

func isFailed(p *plain) { p.failed = true }
func isClosed(p *plain) { p.closed = true }

// full has so high a Base that Next is top - below.
func full(below int64) plain {
	p := in()
	by := top - 5 - below
	p.base, p.first, p.durable, p.next = p.base+by, p.first+by, p.durable+by, p.next+by
	return p
}

var (
	long4096 = strings.Repeat("x", 4096)
	long4097 = strings.Repeat("x", 4097)
)

func wantedWrites() []wanted {
	lost := func(n int64) func(*plain) { return func(p *plain) { gets("x")(p); p.limit = n } }
	x := call(async, 0, "x")
	l := []wanted{
		{in(limit(3)), x, result(0, 5, ""), gets("x")},
		{in(limit(5)), x, result(0, 5, ""), gets("x")},
		{in(limit(6)), call(add, 0, "x"), result(0, 5, ""), gets("x")},
		{in(limit(5)), call(add, 0, "x"), result(0, 5, ""), nil},
		{in(limit(4)), call(add, 0, "x"), result(0, 5, ""), nil},
	}
	for _, kind := range []int{add, async} {
		x := call(kind, 0, "x")
		l = append(l, []wanted{
			{in(), x, result(0, 5, ""), gets("x")},
			{in(), x, result(0, 4, ""), nil},
			{in(), x, result(0, 6, ""), nil},
			{in(), x, result(0, 0, ""), nil},
			{in(), call(kind, 0, ""), result(0, 5, ""), gets("")},
			{in(), call(kind, 0, long4096), result(0, 5, ""), gets(long4096)},
			{in(), call(kind, 0, long4097), result(0, 5, ""), nil},
			{full(1), x, result(0, top-1, ""), gets("x")},
			{full(0), x, result(0, top, ""), nil},
			{full(0), x, result(0, math.MinInt64, ""), nil},
			{in(), x, result(failed, 5, ""), lost(5)},
			{in(limit(6)), x, result(failed, 5, ""), lost(5)},
			{in(limit(5)), x, result(failed, 5, ""), lost(5)},
			{in(limit(3)), x, result(failed, 5, ""), lost(3)},
			{in(durable(5)), x, result(failed, 5, ""), lost(5)},
			{in(durable(6)), x, result(failed, 5, ""), nil}, // Limit would be below Durable
			{in(), x, result(failed, 4, ""), nil},
			{in(), x, result(failed, 6, ""), nil},
			{in(), call(kind, 0, ""), result(failed, 5, ""), func(p *plain) { gets("")(p); p.limit = 5 }},
			{in(), call(kind, 0, long4096), result(failed, 5, ""), func(p *plain) { gets(long4096)(p); p.limit = 5 }},
			{in(), call(kind, 0, long4097), result(failed, 5, ""), nil},
			{full(1), x, result(failed, top-1, ""), lost(top - 1)},
			{full(0), x, result(failed, top, ""), nil},
			{in(), x, result(failed, 0, ""), isFailed},
			{in(), call(kind, 0, long4097), result(failed, 0, ""), isFailed},
			{full(0), x, result(failed, 0, ""), isFailed},
			{in(), x, result(long, 0, ""), asIs},
			{in(), call(kind, 0, long4097), result(long, 0, ""), asIs},
			{full(0), x, result(long, 0, ""), asIs},
			{in(), x, result(many, 0, ""), asIs},
			{in(), x, result(end, 0, ""), nil},
			{full(1), x, result(end, 0, ""), nil},
			{full(0), x, result(end, 0, ""), asIs},
		}...)
	}
	return l
}

func wantedReads() []wanted {
	var l []wanted
	for _, kind := range []int{read, next} {
		of := func(lsn int64) api.Call { return call(kind, lsn, "") }
		l = append(l, []wanted{
			{in(), of(2), result(0, 2, "b"), asIs},
			{in(), of(1), result(0, 1, "a"), nil}, // below First
			{in(), of(3), result(0, 3, "c"), durable(4)},
			{in(), of(4), result(0, 4, "d"), durable(5)},
			{in(), of(5), result(0, 5, ""), nil},
			{in(), of(3), result(0, 2, "c"), nil},
			{in(), of(3), result(0, 4, "d"), nil},
			{in(), of(3), result(0, 0, "c"), nil},
			{in(), of(3), result(0, 3, "d"), nil},
			{in(), of(3), result(0, 3, "cc"), nil},
			{in(), of(3), result(0, 3, ""), nil},
			{in(limit(4)), of(3), result(0, 3, "c"), durable(4)},
			{in(limit(3)), of(3), result(0, 3, "c"), nil}, // Durable may not be raised to 4
			{in(limit(3)), of(2), result(0, 2, "b"), asIs},
			{in(isFailed), of(3), result(0, 3, "c"), durable(4)},
			{full(0), of(top - 1), result(0, top-1, "d"), durable(top)},
			{in(), of(1), result(belowIt, 0, ""), asIs},
			{in(), of(0), result(belowIt, 0, ""), asIs},
			{in(), of(math.MinInt64), result(belowIt, 0, ""), asIs},
			{in(), of(2), result(belowIt, 0, ""), nil},
			{in(), of(1), result(down, 0, ""), nil},
			{in(), of(2), result(down, 0, ""), asIs},
			{in(), of(4), result(down, 0, ""), asIs},
			{in(), of(5), result(down, 0, ""), nil},
		}...)
	}
	return append(l, []wanted{
		{in(), call(read, 2, ""), result(notYet, 0, ""), nil},
		{in(), call(read, 3, ""), result(notYet, 0, ""), asIs},
		{in(), call(read, 4, ""), result(notYet, 0, ""), asIs},
		{in(), call(read, 5, ""), result(notYet, 0, ""), asIs},
		{in(), call(read, top, ""), result(notYet, 0, ""), asIs},
		{in(func(p *plain) { p.first = 4 }), call(read, 3, ""), result(notYet, 0, ""), nil}, // not below Durable, but below First
		{in(), call(next, 3, ""), result(notYet, 0, ""), nil},
		{in(), call(next, 5, ""), result(notYet, 0, ""), nil},
		{in(), call(next, 2, ""), result(failed, 0, ""), nil},
		{in(), call(next, 3, ""), result(failed, 0, ""), isFailed},
		{in(), call(next, 5, ""), result(failed, 0, ""), isFailed},
		{in(), call(next, top, ""), result(failed, 0, ""), isFailed},
		{in(), call(read, 3, ""), result(failed, 0, ""), nil},
	}...)
}

func wantedCuts() []wanted {
	of := func(lsn int64) api.Call { return call(trunc, lsn, "") }
	first := func(n int64) func(*plain) { return func(p *plain) { p.first, p.durable = n, max(p.durable, n) } }
	gone := func(n int64) func(*plain) { return func(p *plain) { first(n)(p); isFailed(p) } }
	return []wanted{
		{in(), of(1), result(0, 0, ""), asIs},
		{in(), of(math.MinInt64), result(0, 0, ""), asIs},
		{in(), of(2), result(0, 0, ""), asIs},
		{in(), of(3), result(0, 0, ""), first(3)},
		{in(), of(4), result(0, 0, ""), first(4)},
		{in(), of(5), result(0, 0, ""), first(5)},
		{in(), of(6), result(0, 0, ""), nil},
		{in(limit(4)), of(4), result(0, 0, ""), first(4)},
		{in(limit(4)), of(5), result(0, 0, ""), nil},
		{in(limit(3)), of(3), result(0, 0, ""), first(3)},
		{in(limit(3)), of(4), result(0, 0, ""), nil},
		{full(0), of(top), result(0, 0, ""), first(top)},
		{in(), of(3), result(0, 3, ""), nil},
		{in(), of(3), result(failed, 0, ""), isFailed},
		{in(), of(0), result(failed, 0, ""), isFailed},
		{in(), of(6), result(failed, 0, ""), isFailed},
		{in(), of(3), result(failed, 3, ""), gone(3)},
		{in(), of(5), result(failed, 5, ""), gone(5)},
		{in(), of(6), result(failed, 6, ""), nil},
		{in(), of(2), result(failed, 2, ""), nil},
		{in(), of(1), result(failed, 1, ""), nil},
		{in(), of(3), result(failed, 4, ""), nil},
		{in(), of(4), result(failed, 3, ""), nil},
		{in(limit(4)), of(4), result(failed, 4, ""), gone(4)},
		{in(limit(4)), of(5), result(failed, 5, ""), nil},
		{in(isFailed), of(4), result(failed, 4, ""), gone(4)},
		{in(), of(2), result(bounds, 0, ""), nil},
		{in(), of(3), result(bounds, 0, ""), nil},
		{in(), of(4), result(bounds, 0, ""), asIs},
		{in(), of(6), result(bounds, 0, ""), asIs},
		{in(), of(top), result(bounds, 0, ""), asIs},
		{in(func(p *plain) { p.first = 4 }), of(4), result(bounds, 0, ""), nil}, // above Durable, but not above First
		{in(), of(2), result(many, 0, ""), asIs},
		{in(), of(9), result(many, 0, ""), asIs},
	}
}

func wantedEnds() []wanted {
	var l []wanted
	for _, kind := range []int{syncs, shut} {
		ok, fails := asIs, isFailed
		if kind == shut {
			ok, fails = isClosed, func(p *plain) { p.failed, p.closed = true, true }
		}
		c := call(kind, 0, "")
		l = append(l, []wanted{
			{in(), c, result(0, 0, ""), ok},
			{in(limit(5)), c, result(0, 0, ""), ok},
			{in(limit(4)), c, result(0, 0, ""), nil},
			{in(), c, result(failed, 0, ""), fails},
			{in(limit(4)), c, result(failed, 0, ""), fails},
			{in(), c, result(failed, 5, ""), nil},
		}...)
	}
	for kind := add; kind <= shut; kind++ {
		c := call(kind, 0, "")
		l = append(l, wanted{in(isClosed), c, result(closed, 0, ""), asIs}, wanted{in(), c, result(closed, 0, ""), nil})
		l = append(l, wanted{in(isClosed, isFailed), c, result(closed, 0, ""), asIs}, wanted{in(isFailed), c, result(closed, 0, ""), nil})
	}
	return l
}

func allWanted() []wanted {
	return slices.Concat(wantedWrites(), wantedReads(), wantedCuts(), wantedEnds())
}

func (w wanted) text() string {
	return fmt.Sprintf("First %d, Durable %d, Next %d, Limit %d, failed %v, closed %v: %s %s",
		w.in.first, w.in.durable, w.in.next, w.in.limit, w.in.failed, w.in.closed, callText(w.c), resultText(w.r))
}

// holds asks Apply, and the tests' own plain state too.
func (w wanted) holds(t *testing.T, what string) {
	t.Helper()
	m, ok := model.Apply(w.in.model(), w.c, w.r)
	want := plain{}
	if w.then != nil {
		want = w.in
		want.records = slices.Clone(want.records)
		w.then(&want)
	}
	same(t, what+w.text(), []any{plainOf(m), ok}, []any{want, w.then != nil})
	holds(t, rows(), w.in, w.c, w.r)
}

// Each row of the table where it may be and, condition by condition, where just that one is not met.
func TestRows(t *testing.T) {
	seen := make([]int, len(rows()))
	for _, w := range allWanted() {
		w.holds(t, "P23.2: ")
		at := slices.IndexFunc(rows(), func(x row) bool { return x.of(asked{w.c, w.r}) })
		if at >= 0 && w.then != nil {
			seen[at]++
		}
	}
	for i, n := range seen {
		if n == 0 {
			t.Errorf("the row of %v, %d, is nowhere met", rows()[i].kinds, rows()[i].err)
		}
	}
}

// Whatever a log that works may answer: what of it may a failed one, a closed one, and one that is both?
func TestFailedAndClosed(t *testing.T) {
	for _, w := range allWanted() {
		if w.then == nil || w.in.failed || w.in.closed {
			continue
		}
		reads := w.c.Kind == read || w.c.Kind == next
		noNumber := w.r.Err == failed && (w.c.Kind == trunc || w.r.LSN == 0)
		then := w.then
		f := w
		f.in.failed = true
		f.then = nil
		if reads || noNumber {
			f.then = then
		}
		f.holds(t, "P23.2: failed: ")
		w.then = nil
		w.in.closed = true
		w.holds(t, "P23.2: closed: ")
		w.in.failed = true
		w.holds(t, "P23.2: failed and closed: ")
	}
}

// Each field of the result that the row does not name, and of the call that its kind does not use, not zero; and kinds that are none.
func TestFields(t *testing.T) {
	for _, w := range allWanted() {
		x, ok := rowOf(rows(), asked{w.c, w.r})
		if w.then == nil || !ok {
			continue
		}
		w.then = nil
		for _, kind := range []int{0, -1, 8, 99, math.MinInt64, math.MaxInt64} {
			v := w
			v.c.Kind = kind
			v.holds(t, "P23.2: the kind: ")
		}
		for _, lsn := range []int64{1, 77, -1, math.MinInt64, math.MaxInt64} {
			v := w
			if v.c.LSN = lsn; unused(v.c) {
				v.holds(t, "P23.2: the call's LSN: ")
			}
			v = w
			if v.r.LSN = lsn; !x.lsn {
				v.holds(t, "P23.2: the result's LSN: ")
			}
		}
		for _, data := range []string{"x", "\x00", w.in.records[0]} {
			v := w
			if v.c.Data = []byte(data); unused(v.c) {
				v.holds(t, "P23.2: the call's Data: ")
			}
			v = w
			if v.r.Data = []byte(data); !x.data {
				v.holds(t, "P23.2: the result's Data: ")
			}
		}
	}
}

// Errors that no row names, of each kind of call, in states with each flag.
func TestErrors(t *testing.T) {
	none := 0
	for _, p := range []plain{in(), in(isFailed), in(isClosed), in(isFailed, isClosed), full(0)} {
		for kind := -1; kind <= 9; kind++ {
			for err := api.Errno(-2); err <= 70; err++ {
				for _, lsn := range []int64{0, 2, 3, 5, 77} {
					c := call(kind, lsn, "")
					if kind == add || kind == async {
						c.LSN = 0
					}
					if _, may := holds(t, rows(), p, c, result(err, 0, "")); !may {
						none++
					}
					holds(t, rows(), p, c, result(err, lsn, ""))
				}
			}
		}
	}
	if none == 0 {
		t.Error("everything may be")
	}
}

// No two rows are of one call and result: of which the plain state asks makes no difference.
func TestRowsApart(t *testing.T) {
	for kind := add; kind <= shut; kind++ {
		for err := api.Errno(0); err <= 70; err++ {
			for _, lsn := range []int64{0, 1} {
				for _, data := range []string{"", "x"} {
					n := 0
					for _, w := range rows() {
						if w.of(asked{api.Call{Kind: kind}, result(err, lsn, data)}) {
							n++
						}
					}
					if n > 1 {
						t.Fatalf("%d %d %d: %d rows", kind, err, lsn, n)
					}
				}
			}
		}
	}
}
