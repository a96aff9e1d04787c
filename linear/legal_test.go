package linear_test

import (
	"fmt"
	"iter"
	"math"
	"slices"
	"testing"

	"flume/api"
	"flume/linear"
)

// anyLists are all lists, up to so long, of numbers from low to high, as often as they like.
func anyLists(low, high, long int) iter.Seq[[]int] {
	return func(yield func([]int) bool) { anyListsFrom(nil, low, high, long, yield) }
}

func anyListsFrom(front []int, low, high, long int, yield func([]int) bool) bool {
	if !yield(slices.Clone(front)) {
		return false
	}
	if len(front) == long {
		return true
	}
	for i := low; i <= high; i++ {
		if !anyListsFrom(append(slices.Clone(front), i), low, high, long, yield) {
			return false
		}
	}
	return true
}

// Orders of three pasts that were done and one that was not: 1 is ahead of 2.
func TestLegal(t *testing.T) {
	ps := []api.Past{appended("a", 1, 1, 9), reads(1, "a", 2, 4), tells(2, notYet, 5, 8), open(add, 0, "b", 3)}
	for what, c := range map[string]struct {
		order []int
		want  bool
	}{
		"each that was done once":             {[]int{0, 1, 2}, true},
		"and the one that was not":            {[]int{0, 1, 2, 3}, true},
		"which stands elsewhere":              {[]int{0, 3, 1, 2}, true},
		"but not ahead of the record 1":       {[]int{3, 0, 1, 2}, false},
		"one twice":                           {[]int{0, 1, 2, 2}, false},
		"one twice, not one behind the other": {[]int{0, 1, 2, 1}, false},
		"the one that was not, twice":         {[]int{0, 1, 2, 3, 3}, false},
		"one twice in place of another":       {[]int{0, 1, 1}, false},
		"one left out":                        {[]int{0, 1}, false},
		"another left out":                    {[]int{0, 2}, false},
		"one left out for one that was not":   {[]int{0, 1, 3}, false},
		"all left out":                        {nil, false},
		"below 0":                             {[]int{0, 1, 2, -1}, false},
		"below 0 first":                       {[]int{-1, 0, 1, 2}, false},
		"far below 0":                         {[]int{0, 1, 2, math.MinInt}, false},
		"beyond the last":                     {[]int{0, 1, 2, 4}, false},
		"beyond the last, first":              {[]int{4, 0, 1, 2}, false},
		"beyond the last, in place of it":     {[]int{0, 1, 2, 3, 4}, false},
		"far beyond the last":                 {[]int{0, 1, 2, math.MaxInt}, false},
		"behind one that it is ahead of":      {[]int{0, 2, 1}, false},
		"a result that may not be":            {[]int{1, 0, 2}, false},
		"a result that may not be, at last":   {[]int{1, 2, 0}, false},
		"a number with higher bits":           {[]int{0, 1, 2, 3 + 64}, false},
		"a number that wraps round":           {[]int{0, 1, 2 + 1<<32}, false},
	} {
		same(t, "P24.2: "+what, linear.Legal(1, ps, c.order), c.want)
	}
	for list := range anyLists(-1, 4, 5) {
		want := isOrder(ps, list) && goesOn(1, ps, list)
		if got := linear.Legal(1, ps, list); got != want {
			t.Fatalf("P24.2: %v: %v, want %v", list, got, want)
		}
	}
}

// Kinds that may not stand in an order, though nothing else speaks against them.
func TestLegalKinds(t *testing.T) {
	ps := []api.Past{open(syncs, 0, "", 1), open(read, 1, "", 1), open(next, 1, "", 1), open(99, 0, "", 1), open(shut, 0, "", 1)}
	for list := range anyLists(0, 4, 3) {
		want := len(list) == 0 || slices.Equal(list, []int{4})
		same(t, fmt.Sprintf("P24.2: %v", list), linear.Legal(1, ps, list), want)
	}
}

// Of more pasts than Check looks at, of which more were not done, too.
func TestLegalOfMore(t *testing.T) {
	for _, n := range []int{12, 13, 14, 16, 17, 32, 33, 64, 65, 100, 300} {
		what := fmt.Sprint(n, " pasts")
		var ps []api.Past
		for i := range n {
			ps = append(ps, appended("a", int64(n-i), 1, 2))
		}
		order := upTo(n)
		slices.Reverse(order)
		same(t, "P24.2: "+what, linear.Legal(1, ps, order), true)
		same(t, "P24.2: one left out: "+what, linear.Legal(1, ps, order[:n-1]), false)
		same(t, "P24.2: one twice: "+what, linear.Legal(1, ps, append(slices.Clone(order), 0)), false)
		same(t, "P24.2: one beyond: "+what, linear.Legal(1, ps, append(slices.Clone(order), n)), false)
		turned := slices.Clone(order)
		turned[n-2], turned[n-1] = turned[n-1], turned[n-2]
		same(t, "P24.2: the last two turned: "+what, linear.Legal(1, ps, turned), false)

		half := several(n, open(add, 0, "a", 1))
		same(t, "P24.2: none that was not done: "+what, linear.Legal(1, half, nil), true)
		same(t, "P24.2: all that were not done: "+what, linear.Legal(1, half, order), true)
		same(t, "P24.2: some that were not done: "+what, linear.Legal(1, half, order[3:7]), true)

		for _, bad := range []api.Past{tells(0, belowIt, 0, 2), tells(0, belowIt, 2, 2), tells(0, belowIt, 2, -1), open(add, 0, "", 0)} {
			for _, at := range []int{0, n - 1} {
				wrong := several(n, tells(0, belowIt, 1, 2))
				wrong[at] = bad
				same(t, fmt.Sprintf("P24.2: a wrong number at %d: %s", at, what), linear.Legal(1, wrong, order), false)
			}
		}
		same(t, "P24.2: base 0: "+what, linear.Legal(0, several(n, tells(-1, belowIt, 1, 2)), order), false)
	}
}

// Time's order holds between any two of many.
func TestLegalInTime(t *testing.T) {
	n := 40
	var ps []api.Past
	for i := range n { // each overlaps the one behind it alone
		ps = append(ps, tells(0, belowIt, 2*i+1, 2*i+3))
	}
	for i := range n {
		for j := range n {
			order := upTo(n)
			order[i], order[j] = order[j], order[i]
			near := i-j <= 1 && j-i <= 1
			same(t, fmt.Sprintf("P24.2: %d and %d swapped", i, j), linear.Legal(1, ps, order), near)
		}
	}
	// One that was begun late, and stands early, has all that were done ahead of it stand too late.
	ps = []api.Past{tells(0, belowIt, 9, 10), tells(0, belowIt, 1, 20), tells(0, belowIt, 2, 8)}
	for list := range lists(3) {
		same(t, fmt.Sprintf("P24.2: %v", list), linear.Legal(1, ps, list), len(list) == 3 && slices.Index(list, 2) < slices.Index(list, 0))
	}
}

// An order that is long, and a list of pasts that is, end soon.
func TestLegalOfMany(t *testing.T) {
	n := 1 << 18
	ps := several(n, tells(0, belowIt, 1, 2))
	same(t, "P24.2: many", linear.Legal(1, ps, upTo(n)), true)
	same(t, "P24.2: an order of many, of few", linear.Legal(1, ps[:3], upTo(n)), false)
	same(t, "P24.2: the same one many times", linear.Legal(1, ps[:1], make([]int, n)), false)
	same(t, "P24.2: an order of few, of many", linear.Legal(1, ps, upTo(3)), false)
}
