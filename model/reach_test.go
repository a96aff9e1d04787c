package model_test

import (
	"fmt"
	"math/rand"
	"testing"

	"flume/api"
	"flume/model"
)

// bounded tells whether a state holds together: First is at most Durable, that at most Next and Limit, and there is one record a number.
func bounded(m api.Model) bool {
	return m.Base <= m.First && m.First <= m.Durable && m.Durable <= m.Next && m.Durable <= m.Limit && m.Next-m.Base == int64(len(m.Records))
}

// All states that come of New by Apply and Half, as long as there are at most two records, all of no bytes.
func TestReached(t *testing.T) {
	for _, base := range []int64{1, 7, top - 2} {
		m, _ := model.New(base)
		seen := map[string]bool{fmt.Sprintf("%+v", m): true}
		states := []api.Model{m}
		cs, rs := calls(base-1, base+2, ""), append(results(0, 0, ""), results(base-1, base+2, "")...)
		for len(states) > 0 {
			m, states = states[0], states[1:]
			if !bounded(m) {
				t.Fatalf("what follows: %+v", m)
			}
			for _, n := range behind(m, cs, rs) {
				if s := fmt.Sprintf("%+v", n); n.Next <= base+2 && !seen[s] {
					seen[s] = true
					states = append(states, n)
				}
			}
		}
		// Limit is 2^63 - 1 or the number of a record that was lost: of n records, First f behind Base and Durable d, that makes n - d and one.
		want := 0
		for n := range 3 {
			for d := range n + 1 {
				want += 4 * (d + 1) * (n - d + 1)
			}
		}
		same(t, fmt.Sprintf("how many states from %d on", base), len(seen), want)
	}
}

func behind(m api.Model, cs []api.Call, rs []api.Result) []api.Model {
	var l []api.Model
	for _, c := range cs {
		if n, ok := model.Half(m, c); ok {
			l = append(l, n)
		}
		for _, r := range rs {
			if n, ok := model.Apply(m, c, r); ok {
				l = append(l, n)
			}
		}
	}
	return l
}

// drawn is a call, and what may have come of it in such a state, or nearly so.
func drawn(random *rand.Rand, p plain) (api.Call, api.Result) {
	c := api.Call{Kind: 1 + random.Intn(7)}
	r := api.Result{Err: []api.Errno{0, 0, 0, 0, failed, notYet, belowIt, bounds, down, long, many, end, closed}[random.Intn(13)]}
	switch c.Kind {
	case add, async:
		c.Data = []byte("abc"[:random.Intn(4)])
		if r.Err == api.OK || r.Err == failed && random.Intn(4) > 0 {
			r.LSN = p.next + int64(random.Intn(20)/19)
		}
	case read, next, trunc:
		c.LSN = p.first - 1 + random.Int63n(p.next-p.first+4)
		if r.Err == api.OK && c.Kind != trunc || r.Err == failed && c.Kind == trunc && random.Intn(2) > 0 {
			r.LSN = c.LSN
		}
		if at := c.LSN - p.base; r.Err == api.OK && c.Kind != trunc && at >= 0 && at < int64(len(p.records)) {
			r.Data = []byte(p.records[at])
		}
	}
	return c, r
}

// Drawn walks, each step held against the plain state.
func TestWalks(t *testing.T) {
	for seed := range int64(400) {
		random := rand.New(rand.NewSource(seed))
		m, _ := model.New(1 + random.Int63n(3)*1000)
		p, table := plainOf(m), rows()
		for range 100 {
			c, r := drawn(random, p)
			if ends := r.Err == failed && r.LSN == 0 || c.Kind == shut || c.Kind == next && r.Err == failed; ends && random.Intn(10) > 0 {
				continue // or no walk would come far
			}
			q, may := holds(t, table, p, c, r)
			if random.Intn(8) == 0 && c.Kind != shut {
				q, may = holdsHalf(t, table, p, c)
			}
			if may {
				p = q
			}
			if !bounded(p.model()) {
				t.Fatalf("what follows: seed %d: %+v", seed, p)
			}
		}
	}
}
