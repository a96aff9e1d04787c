package model_test

import (
	"fmt"
	"math"
	"testing"

	"flume/api"
	"flume/model"
)

func TestNew(t *testing.T) {
	for _, base := range []int64{1, 2, 5, 1 << 32, 1 << 62, top - 1, top} {
		m, err := model.New(base)
		want := api.Model{Base: base, First: base, Durable: base, Next: base, Limit: top}
		same(t, fmt.Sprintf("P23.1: New(%d)", base), []any{m, err}, []any{want, api.OK})
	}
	for _, base := range []int64{0, -1, -5, math.MinInt64} {
		m, err := model.New(base)
		same(t, fmt.Sprintf("P23.1: New(%d)", base), []any{m, err}, []any{api.Model{}, api.ErrArg})
	}
}

// step is a call, its result, and the state then; a nil one, where it may not be.
type step struct {
	c    api.Call
	r    api.Result
	then func(*plain)
}

// plays goes from New(base) on, one step behind the other; what may not be leaves the state as it was.
func plays(t *testing.T, what string, base int64, steps ...step) {
	t.Helper()
	m, err := model.New(base)
	same(t, "P23.1: "+what, err, api.OK)
	for i, s := range steps {
		want := plainOf(m)
		got, ok := model.Apply(m, s.c, s.r)
		at := fmt.Sprintf("P23.2: %s: %d: %s %s", what, i, callText(s.c), resultText(s.r))
		if s.then == nil {
			same(t, at, []any{got, ok}, []any{api.Model{}, false})
			continue
		}
		s.then(&want)
		same(t, at, []any{plainOf(got), ok}, []any{want, true})
		m = got
	}
}

func asIs(*plain) {}

// gets has the record data come next.
func gets(data string) func(*plain) {
	return func(p *plain) {
		p.records = append(p.records, data)
		p.next++
	}
}

func durable(n int64) func(*plain) { return func(p *plain) { p.durable = n } }

// The chapter's own table of examples.
func TestExamples(t *testing.T) {
	a := call(add, 0, "a")
	plays(t, "example 1", 1,
		step{a, result(0, 1, ""), gets("a")},
		step{a, result(0, 1, ""), nil},
	)
	plays(t, "example 1, two ways", 1, step{a, result(0, 2, ""), nil})
	plays(t, "example 2", 1,
		step{call(async, 0, "a"), result(0, 1, ""), gets("a")},
		step{call(read, 1, ""), result(notYet, 0, ""), asIs},
		step{call(read, 1, ""), result(0, 1, "a"), durable(2)},
		step{call(read, 1, ""), result(notYet, 0, ""), nil},
	)
	plays(t, "example 3", 1,
		step{a, result(failed, 1, ""), func(p *plain) { gets("a")(p); p.limit = 1 }},
		step{call(syncs, 0, ""), result(0, 0, ""), nil},
	)
	plays(t, "example 4", 1,
		step{call(shut, 0, ""), result(0, 0, ""), func(p *plain) { p.closed = true }},
		step{call(read, 1, ""), result(closed, 0, ""), asIs},
	)
}

// A record that was lost with its number, and what may be behind it.
func TestLost(t *testing.T) {
	plays(t, "a lost record", 1,
		step{call(add, 0, "a"), result(0, 1, ""), gets("a")},
		step{call(add, 0, "b"), result(failed, 2, ""), func(p *plain) { gets("b")(p); p.limit = 2 }},
		step{call(read, 1, ""), result(0, 1, "a"), durable(2)},
		step{call(read, 2, ""), result(0, 2, "b"), nil},
		step{call(next, 2, ""), result(0, 2, "b"), nil},
		step{call(read, 2, ""), result(notYet, 0, ""), asIs},
		step{call(read, 2, ""), result(down, 0, ""), asIs},
		step{call(syncs, 0, ""), result(0, 0, ""), nil},
		step{call(shut, 0, ""), result(0, 0, ""), nil},
		step{call(add, 0, "c"), result(0, 3, ""), nil},
		step{call(async, 0, "c"), result(0, 3, ""), gets("c")},
		step{call(trunc, 2, ""), result(0, 0, ""), func(p *plain) { p.first = 2 }},
		step{call(trunc, 3, ""), result(0, 0, ""), nil},
		step{call(trunc, 3, ""), result(failed, 3, ""), nil},
		step{call(trunc, 3, ""), result(bounds, 0, ""), asIs},
		// A second one, above the first: Limit stays at the lower one.
		step{call(async, 0, "d"), result(failed, 4, ""), gets("d")},
		step{call(read, 3, ""), result(0, 3, "c"), nil},
		step{call(next, 5, ""), result(failed, 0, ""), func(p *plain) { p.failed = true }},
		step{call(add, 0, "e"), result(failed, 5, ""), nil},
		step{call(add, 0, "e"), result(failed, 0, ""), asIs},
		step{call(shut, 0, ""), result(failed, 0, ""), func(p *plain) { p.closed = true }},
	)
}

// A lost record below one that was lost ahead of it can't come of calls, since numbers rise; of a state that is handed in Limit goes down.
func TestLostBelow(t *testing.T) {
	for _, limit := range []int64{4, 5, 6, top} {
		p := stateAt(5, limit)
		m, ok := model.Apply(p.model(), call(add, 0, "x"), result(failed, 5, ""))
		same(t, fmt.Sprintf("P23.2: Limit %d", limit), []any{m.Limit, m.Next, ok}, []any{min(limit, 5), 6, true})
	}
}

// stateAt has the records 1 to next - 1, of which 1 to 2 are told to last; First is 2.
func stateAt(next, limit int64) plain {
	p := plain{base: 1, first: 2, durable: 3, next: next, limit: limit}
	for lsn := int64(1); lsn < next; lsn++ {
		p.records = append(p.records, string(rune('a'+lsn-1)))
	}
	return p
}

func TestFront(t *testing.T) {
	plays(t, "a front", 5,
		step{call(trunc, 5, ""), result(0, 0, ""), asIs},
		step{call(trunc, 6, ""), result(0, 0, ""), nil},
		step{call(trunc, 6, ""), result(bounds, 0, ""), asIs},
		step{call(async, 0, "a"), result(0, 5, ""), gets("a")},
		step{call(async, 0, "b"), result(0, 6, ""), gets("b")},
		step{call(trunc, 6, ""), result(0, 0, ""), func(p *plain) { p.first, p.durable = 6, 6 }},
		step{call(trunc, 2, ""), result(0, 0, ""), asIs},
		step{call(read, 5, ""), result(0, 5, "a"), nil},
		step{call(read, 5, ""), result(belowIt, 0, ""), asIs},
		step{call(read, 6, ""), result(belowIt, 0, ""), nil},
		step{call(read, 6, ""), result(notYet, 0, ""), asIs},
		step{call(trunc, 7, ""), result(failed, 6, ""), nil},
		step{call(trunc, 7, ""), result(failed, 7, ""), func(p *plain) { p.first, p.durable, p.failed = 7, 7, true }},
		step{call(trunc, 7, ""), result(failed, 7, ""), nil},
		step{call(trunc, 7, ""), result(failed, 0, ""), asIs},
		step{call(read, 6, ""), result(0, 6, "b"), nil},
		step{call(next, 6, ""), result(belowIt, 0, ""), asIs},
	)
}

// The last number there is.
func TestEnd(t *testing.T) {
	for _, kind := range []int{add, async} {
		plays(t, "the end", top-1,
			step{call(kind, 0, "a"), result(end, 0, ""), nil},
			step{call(kind, 0, "a"), result(0, top-1, ""), gets("a")},
			step{call(kind, 0, "b"), result(0, top, ""), nil},
			step{call(kind, 0, "b"), result(failed, top, ""), nil},
			step{call(kind, 0, "b"), result(end, 0, ""), asIs},
			step{call(syncs, 0, ""), result(0, 0, ""), asIs},
			step{call(read, top, ""), result(notYet, 0, ""), asIs},
			step{call(read, top-1, ""), result(0, top-1, "a"), durable(top)},
			step{call(trunc, top, ""), result(0, 0, ""), func(p *plain) { p.first = top }},
			step{call(next, top, ""), result(failed, 0, ""), func(p *plain) { p.failed = true }},
			step{call(kind, 0, "b"), result(end, 0, ""), nil},
		)
		m, _ := model.New(top - 1)
		m, ok := model.Half(m, call(kind, 0, "a"))
		same(t, "P23.3: the last number", []any{m.Next, ok}, []any{int64(top), true})
		m, ok = model.Half(m, call(kind, 0, "a"))
		same(t, "P23.3: behind it", []any{m, ok}, []any{api.Model{}, false})
	}
}
