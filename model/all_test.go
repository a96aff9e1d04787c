package model_test

import (
	"fmt"
	"iter"
	"math"
	"slices"
	"strings"
	"sync"
	"testing"

	"flume/api"
	"flume/model"
)

// smallStates are all states that hold together (First at most Durable, that at most Next and Limit) of at most two records, from base on.
func smallStates(base int64) []plain {
	var l []plain
	for flags := range 4 {
		for records := range int64(3) {
			for durable := range records + 1 {
				for first := range durable + 1 {
					for lim := durable; lim <= records+2; lim++ {
						p := plain{base: base, first: base + first, durable: base + durable, next: base + records, limit: base + lim}
						p.failed, p.closed = flags&1 > 0, flags&2 > 0
						p.records = []string{"a", ""}[:records]
						l = append(l, p)
					}
				}
			}
		}
	}
	return l
}

// brokenStates don't hold together: their fields are as they like, and there are more or fewer records than Base and Next tell.
func brokenStates() []plain {
	var l []plain
	for n := range 4 * 4 * 4 * 4 * 4 {
		p := plain{base: int64(n) % 4, first: int64(n) / 4 % 4, durable: int64(n) / 16 % 4, next: int64(n) / 64 % 4, limit: int64(n) / 256 % 4}
		p.records = []string{"a", "", "a"}[:n%3]
		p.failed = n%5 == 0
		l = append(l, p)
	}
	return append(l, plain{})
}

// numbers are low to high, which may be the greatest there is.
func numbers(low, high int64) iter.Seq[int64] {
	return func(yield func(int64) bool) {
		for i := range high - low + 1 {
			if !yield(low + i) {
				return
			}
		}
	}
}

// calls are all calls with such LSNs and data; of those that have what their kind does not use just some.
func calls(low, high int64, datas ...string) []api.Call {
	var l []api.Call
	for kind := 0; kind <= 8; kind++ {
		for lsn := range numbers(low, high) {
			for i, data := range datas {
				c := call(kind, lsn, data)
				if usesLSN := c.Kind == read || c.Kind == next || c.Kind == trunc; lsn < high && !usesLSN {
					c.LSN = 0
				}
				if !unused(c) || lsn == high && i == 0 {
					l = append(l, c)
				}
			}
		}
	}
	byText := func(a, b api.Call) int { return strings.Compare(callText(a), callText(b)) }
	slices.SortFunc(l, byText)
	return slices.CompactFunc(l, func(a, b api.Call) bool { return byText(a, b) == 0 })
}

func results(low, high int64, datas ...string) []api.Result {
	var l []api.Result
	for _, err := range []api.Errno{0, long, bounds, many, api.ErrIO, down, failed, closed, notYet, belowIt, end} {
		for lsn := range numbers(low, high) {
			for _, data := range datas {
				l = append(l, result(err, lsn, data))
			}
		}
	}
	return l
}

// allOf holds every call with every result, in every state, against the plain one, several states at the same time.
func allOf(t *testing.T, states []plain, cs []api.Call, rs []api.Result) {
	t.Helper()
	var group sync.WaitGroup
	wrong := make([]string, len(states))
	hands := make(chan struct{}, 8)
	for i, p := range states {
		group.Go(func() {
			hands <- struct{}{}
			wrong[i] = wrongIn(p, cs, rs)
			<-hands
		})
	}
	group.Wait()
	for _, w := range wrong {
		if w != "" {
			t.Fatal(w)
		}
	}
}

// wrongIn is the first that is wrong in a state.
func wrongIn(p plain, cs []api.Call, rs []api.Result) string {
	table, m := rows(), p.model()
	for _, c := range cs {
		want, may := p.half(table, c)
		n, ok := model.Half(m, c)
		if got := plainOf(n); ok != may || !got.equal(want) {
			return fmt.Sprintf("P23.3: %+v: %s: %+v %v, want %+v %v", p, callText(c), got, ok, want, may)
		}
		for _, r := range rs {
			want, may := p.apply(table, c, r)
			n, ok := model.Apply(m, c, r)
			if got := plainOf(n); ok != may || !got.equal(want) {
				return fmt.Sprintf("P23.2: %+v: %s, %s: %+v %v, want %+v %v", p, callText(c), resultText(r), got, ok, want, may)
			}
		}
	}
	return ""
}

func TestAllSmall(t *testing.T) {
	allOf(t, smallStates(1), calls(-1, 4, "", "a"), results(-1, 4, "", "a"))
	allOf(t, smallStates(7), calls(6, 10, "", "b"), results(6, 10, "", "a"))
	allOf(t, smallStates(top-2), calls(top-3, top, "", "b"), results(top-3, top, "", "a"))
}

func TestAllBroken(t *testing.T) {
	allOf(t, brokenStates(), calls(0, 4, "", "a"), results(0, 4, "", "a"))
}

// Numbers at the edges of int64, in states that nobody gets by calls: each call ends.
func TestEdges(t *testing.T) {
	edges := []int64{math.MinInt64, -1, 1, top - 1, top}
	var states []plain
	for n := range 5 * 5 * 5 * 5 * 5 {
		p := plain{base: edges[n%5], first: edges[n/5%5], durable: edges[n/25%5], next: edges[n/125%5], limit: edges[n/625%5]}
		p.records = []string{"a", "b"}[:n%3]
		states = append(states, p)
	}
	var cs []api.Call
	var rs []api.Result
	for _, lsn := range edges {
		cs = append(cs, call(read, lsn, ""), call(next, lsn, ""), call(trunc, lsn, ""))
		rs = append(rs, result(0, lsn, ""), result(0, lsn, "a"), result(0, lsn, "b"), result(failed, lsn, ""))
	}
	cs = append(cs, call(add, 0, "a"), call(async, 0, "a"), call(syncs, 0, ""), call(shut, 0, ""))
	allOf(t, states, cs, rs)
}

// The zero state is one whose log begins at 0: it has no record and takes none that lasts.
func TestZeroState(t *testing.T) {
	zero := api.Model{}
	for _, c := range calls(-1, 1, "", "a") {
		for _, r := range results(-1, 1, "", "a") {
			holds(t, rows(), plain{}, c, r)
		}
		holdsHalf(t, rows(), plain{}, c)
	}
	m, ok := model.Apply(zero, call(add, 0, "a"), result(0, 0, ""))
	same(t, "P23.2: an Append of which nothing may last", []any{m, ok}, []any{zero, false})
	m, ok = model.Apply(zero, call(read, 0, ""), result(0, 0, ""))
	same(t, "P23.2: a record that is not there", []any{m, ok}, []any{zero, false})
	m, ok = model.Apply(zero, call(shut, 0, ""), result(0, 0, ""))
	same(t, "P23.2: Close", []any{m, ok}, []any{api.Model{Closed: true}, true})
}
