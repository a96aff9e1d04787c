package linear_test

import (
	"fmt"
	"math/rand"
	"slices"
	"testing"

	"flume/api"
)

// acts are calls and results of every kind, from base on; the second list is of calls that were not done.
func acts(base int64) (done, half []api.Past) {
	for _, kind := range []int{add, async} {
		for n := range int64(2) {
			done = append(done, past(kind, 0, "a", result(api.OK, base+n, ""), 0, 1), past(kind, 0, "b", result(failed, base+n, ""), 0, 1))
		}
		done = append(done, past(kind, 0, "a", result(failed, 0, ""), 0, 1), past(kind, 0, "a", result(api.ErrMany, 0, ""), 0, 1), past(kind, 0, "a", result(closed, 0, ""), 0, 1))
		half = append(half, open(kind, 0, "a", 0), open(kind, 0, "b", 0))
	}
	for _, kind := range []int{read, next} {
		done = append(done, past(kind, base, "", result(api.OK, base, "a"), 0, 1), past(kind, base, "", result(api.OK, base, "b"), 0, 1), past(kind, base+1, "", result(api.OK, base+1, "a"), 0, 1))
		done = append(done, past(kind, base, "", result(belowIt, 0, ""), 0, 1), past(kind, base, "", result(api.ErrDown, 0, ""), 0, 1), past(kind, base+1, "", result(failed, 0, ""), 0, 1))
		done = append(done, past(kind, base, "", result(notYet, 0, ""), 0, 1), past(kind, base+1, "", result(notYet, 0, ""), 0, 1))
		half = append(half, open(kind, base, "", 0))
	}
	for _, kind := range []int{syncs, shut} {
		for _, err := range []api.Errno{api.OK, failed, closed} {
			done = append(done, past(kind, 0, "", result(err, 0, ""), 0, 1))
		}
		half = append(half, open(kind, 0, "", 0))
	}
	for n := range int64(3) {
		done = append(done, past(trunc, base+n, "", api.Result{}, 0, 1), past(trunc, base+n, "", result(failed, base+n, ""), 0, 1), past(trunc, base+n, "", result(api.ErrBounds, 0, ""), 0, 1))
		half = append(half, open(trunc, base+n, "", 0))
	}
	return done, append(half, open(0, 0, "", 0))
}

// at is a past with such numbers.
func at(p api.Past, begin, end int) api.Past {
	p.Begin = begin
	if p.End != 0 {
		p.End = end
	}
	return p
}

// All pairs of calls, one ahead of the other, and beside each other.
func TestAllPairs(t *testing.T) {
	done, half := acts(1)
	all := append(done, half...)
	for _, p := range all {
		holdsAll(t, "alone", 1, []api.Past{at(p, 1, 2)})
		for _, q := range all {
			for _, begin := range []int{1, 2, 3} { // beside, at the very number, behind
				holdsAll(t, "a pair", 1, []api.Past{at(p, 1, 2), at(q, begin, 4)})
			}
		}
	}
}

// All pairs of calls beside an Append, and beside an Append that was not done.
func TestAllPairsBeside(t *testing.T) {
	done, half := acts(5)
	all := append(done, half...)
	for _, p := range all {
		for _, q := range all {
			holdsAll(t, "beside an Append", 5, []api.Past{at(p, 1, 4), appended("a", 5, 1, 3), at(q, 3, 5)})
			holdsAll(t, "beside one that was not done", 5, []api.Past{at(p, 1, 3), at(q, 4, 5), open(add, 0, "a", 2)})
		}
	}
}

// Few pasts as chance has it, against all lists.
func TestRandom(t *testing.T) {
	r := rand.New(rand.NewSource(24))
	found := [7]int{}
	for n := range 12000 {
		base := []int64{1, 7, top - 2}[n%3]
		done, half := acts(base)
		var ps []api.Past
		for range 1 + r.Intn(4) + n%3 {
			begin := 1 + r.Intn(6)
			if p := done[r.Intn(len(done))]; r.Intn(3) > 0 {
				ps = append(ps, at(p, begin, begin+1+r.Intn(5)))
			} else if len(ps) < 4 {
				ps = append(ps, at(half[r.Intn(len(half))], begin, 0))
			}
		}
		what := fmt.Sprintf("%d, base %d", n, base)
		if len(ps) > 4 {
			want := answersOf(base, ps)
			holds(t, what, base, ps, want.first, want.found, want.most)
		} else if holdsAll(t, what, base, ps).found {
			found[len(ps)]++
		}
	}
	if slices.Min(found[1:5]) < 50 {
		t.Fatalf("few have an order: %v", found)
	}
}
