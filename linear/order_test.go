package linear_test

import (
	"fmt"
	"math"
	"slices"
	"testing"

	"flume/api"
	"flume/linear"
)

// One that was done at the very number at which another one begins is not ahead of it; below that it is.
func TestAhead(t *testing.T) {
	for end := 2; end <= 8; end++ {
		for begin := 1; begin <= 8; begin++ {
			// Each says that the other one was there first, as far as its number goes: only a turned order is legal.
			ps := []api.Past{appended("a", 2, 1, end), appended("b", 1, begin, 9)}
			what := fmt.Sprintf("done at %d, begun at %d", end, begin)
			if end < begin {
				holds(t, what, 1, ps, nil, false, 0)
			} else {
				holds(t, what, 1, ps, []int{1, 0}, true, 2)
			}
			same(t, "P24.2: "+what, linear.Legal(1, ps, []int{1, 0}), end >= begin)
			same(t, "P24.2: by number, "+what, linear.Legal(1, ps, []int{0, 1}), false)
			turned := []api.Past{ps[1], ps[0]}
			same(t, "P24.2: turned, "+what, linear.Legal(1, turned, []int{0, 1}), end >= begin)
			fits := []api.Past{appended("a", 1, 1, end), appended("b", 2, begin, 9)}
			holds(t, what, 1, fits, []int{0, 1}, true, 2)
		}
	}
	most := math.MaxInt
	ps := []api.Past{appended("a", 2, 1, most-1), appended("b", 1, most-1, most)}
	holds(t, "at the greatest number but one", 1, ps, []int{1, 0}, true, 2)
	ps[1].Begin, ps[0].End = most-1, most-2
	holds(t, "the greatest numbers", 1, ps, nil, false, 0)
}

// Nobody is ahead of itself or of one with the same numbers, and all are in time's order through several.
func TestAheadOfMany(t *testing.T) {
	twins := []api.Past{appended("a", 2, 3, 4), appended("a", 1, 3, 4), appended("a", 3, 3, 4)}
	holds(t, "the same numbers", 1, twins, []int{1, 0, 2}, true, 3)
	holdsAll(t, "the same numbers", 1, twins)
	alike := []api.Past{tells(1, notYet, 3, 4), tells(1, notYet, 3, 4)}
	holds(t, "two alike", 1, alike, []int{0, 1}, true, 2)
	same(t, "P24.2: two alike, turned", linear.Legal(1, alike, []int{1, 0}), true)
	// 0 is ahead of 2, but 1 is beside both.
	chain := []api.Past{appended("a", 1, 1, 2), appended("b", 3, 2, 3), appended("c", 2, 3, 4)}
	holds(t, "one beside two", 1, chain, []int{0, 2, 1}, true, 3)
	chain[1].Result.LSN, chain[0].Result.LSN = 1, 3
	holds(t, "one beside two, the other way", 1, chain, nil, false, 1)
	holdsAll(t, "one beside two, the other way", 1, chain)
}

// A past that was not done is ahead of nobody, however early it was begun; it stands behind those that are ahead of it.
func TestHalfInTime(t *testing.T) {
	for begin := 1; begin <= 8; begin++ {
		ps := []api.Past{open(add, 0, "a", begin), reads(1, "a", 5, 6), tells(1, notYet, 3, 4)}
		what := fmt.Sprintf("not done, begun at %d", begin)
		if begin <= 6 { // the Read tells of it, so it was there
			order := []int{0, 2, 1} // a reserved record need not last yet
			if begin > 4 {
				order = []int{2, 0, 1}
			}
			holds(t, what, 1, ps, order, true, 3)
		} else {
			holds(t, what, 1, ps, nil, false, 1)
		}
		holdsAll(t, what, 1, ps)
	}
	late := []api.Past{open(add, 0, "b", 1), appended("a", 1, 7, 8), open(async, 0, "c", 2), reads(2, "c", 9, 10), reads(3, "b", 11, 12)}
	holds(t, "long behind their beginnings", 1, late, []int{1, 2, 0, 3, 4}, true, 5)
	same(t, "P24.2: at the last place", linear.Legal(1, late[:3], []int{1, 2, 0}), true)
	same(t, "P24.2: ahead of the one that has its number", linear.Legal(1, late[:3], []int{0, 1}), false)
}

// Each kind that was not done, in an order and left out.
func TestHalfKinds(t *testing.T) {
	for _, c := range []struct {
		call api.Past
		may  bool
	}{
		{open(add, 0, "a", 1), true}, {open(add, 0, "", 1), true}, {open(async, 0, "a", 1), true}, {open(async, 0, "", 1), true},
		{open(trunc, 1, "", 1), true}, {open(trunc, 0, "", 1), true}, {open(trunc, -1, "", 1), true}, {open(shut, 0, "", 1), true},
		{open(trunc, 2, "", 1), false}, {open(trunc, top, "", 1), false}, // beyond the end
		{open(add, 1, "a", 1), false}, {open(async, 1, "", 1), false}, {open(trunc, 1, "a", 1), false}, {open(shut, 1, "", 1), false}, {open(shut, 0, "a", 1), false},
		{open(add, 0, string(make([]byte, 4096)), 1), true}, {open(add, 0, string(make([]byte, 4097)), 1), false},
		{open(read, 1, "", 1), false}, {open(next, 1, "", 1), false}, {open(syncs, 0, "", 1), false}, {open(read, 0, "", 1), false},
		{open(0, 0, "", 1), false}, {open(8, 0, "", 1), false}, {open(-1, 0, "", 1), false}, {open(math.MaxInt, 0, "", 1), false}, {open(math.MinInt, 0, "", 1), false},
	} {
		what := fmt.Sprintf("kind %d, %d, %d bytes", c.call.Call.Kind, c.call.Call.LSN, len(c.call.Call.Data))
		alone, n := []api.Past{c.call}, 0
		if c.may {
			n = 1
		}
		holds(t, what, 1, alone, []int{}, true, n)
		same(t, "P24.2: left out: "+what, linear.Legal(1, alone, nil), true)
		same(t, "P24.2: in it: "+what, linear.Legal(1, alone, []int{0}), c.may)
		behind := []api.Past{c.call, tells(1, belowIt, 1, 2), tells(0, belowIt, 1, 2)}
		holdsAll(t, what, 1, behind)
		holdsAll(t, what+", begun late", 1, []api.Past{appended("b", 1, 1, 2), past(c.call.Call.Kind, c.call.Call.LSN, string(c.call.Call.Data), api.Result{}, 3, 0)})
	}
}

// What took effect though it was not done is to be seen: a Close, a Truncate, an Append.
func TestHalfIsSeen(t *testing.T) {
	holds(t, "a Close", 1, []api.Past{tells(1, closed, 3, 4), open(shut, 0, "", 1)}, []int{1, 0}, true, 2)
	holds(t, "a Close that came later", 1, []api.Past{tells(1, closed, 3, 4), open(shut, 0, "", 5)}, nil, false, 0)
	holds(t, "a Close that did not", 1, []api.Past{open(shut, 0, "", 1), appended("a", 1, 3, 4)}, []int{1}, true, 2)
	holds(t, "of two Closes one", 1, []api.Past{open(shut, 0, "", 1), open(shut, 0, "", 1), tells(1, closed, 3, 4)}, []int{0, 2}, true, 2)
	holds(t, "a Truncate", 1, []api.Past{appended("a", 1, 1, 2), open(trunc, 2, "", 1), tells(1, belowIt, 5, 6)}, []int{0, 1, 2}, true, 3)
	holds(t, "a Truncate that did not", 1, []api.Past{appended("a", 1, 1, 2), open(trunc, 2, "", 1), reads(1, "a", 5, 6)}, []int{0, 2}, true, 3)
	holds(t, "one of two Truncates", 1, []api.Past{open(trunc, 3, "", 1), open(trunc, 2, "", 1), appended("a", 1, 1, 2), appended("b", 2, 1, 2), tells(1, belowIt, 5, 6), reads(2, "b", 7, 8)}, []int{2, 1, 3, 4, 5}, true, 6)
	holds(t, "an Append that fills a gap", 1, []api.Past{appended("b", 2, 3, 4), open(add, 0, "a", 1)}, []int{1, 0}, true, 2)
	holds(t, "an Append that would have to last", 1, []api.Past{past(add, 0, "a", result(failed, 1, ""), 1, 2), open(add, 0, "b", 1)}, []int{0}, true, 2)
	holds(t, "numbers swapped", 1, []api.Past{open(add, 0, "a", 1), open(add, 0, "b", 1), reads(1, "b", 2, 3), reads(2, "a", 4, 5)}, []int{1, 0, 2, 3}, true, 4)
	holds(t, "of three the last two", 1, []api.Past{open(add, 0, "a", 1), open(async, 0, "b", 1), open(add, 0, "c", 1), reads(1, "c", 2, 3), reads(2, "b", 4, 5), tells(3, notYet, 6, 7)}, []int{2, 1, 0, 3, 4, 5}, true, 6)
}

// The result of one that was not done counts for nothing.
func TestHalfResult(t *testing.T) {
	for _, r := range []api.Result{
		{}, result(api.OK, 1, ""), result(api.OK, 7, "x"), result(failed, 0, ""), result(failed, 1, ""), result(closed, 0, ""), result(api.ErrLong, -1, ""), result(-5, top, "abc"),
	} {
		for _, kind := range []int{add, async} {
			p := past(kind, 0, "a", r, 1, 0)
			ps := []api.Past{p, appended("b", 2, 1, 5), reads(1, "a", 3, 5)}
			what := fmt.Sprintf("kind %d, result %+v", kind, r)
			holds(t, what, 1, ps, []int{0, 1, 2}, true, 3)
			holdsAll(t, what, 1, ps)
			holdsAll(t, what, 1, []api.Past{p, p, tells(2, api.ErrDown, 1, 5)})
		}
		holds(t, fmt.Sprintf("Close, result %+v", r), 1, []api.Past{past(shut, 0, "", r, 1, 0), tells(1, closed, 1, 2)}, []int{0, 1}, true, 2)
		holds(t, fmt.Sprintf("Truncate, result %+v", r), 1, []api.Past{past(trunc, 2, "", r, 1, 0), appended("a", 1, 1, 2), tells(1, belowIt, 1, 2)}, []int{1, 0, 2}, true, 3)
		holds(t, fmt.Sprintf("Sync, result %+v", r), 1, []api.Past{past(syncs, 0, "", r, 1, 0)}, []int{}, true, 0)
		holds(t, fmt.Sprintf("Read, result %+v", r), 1, []api.Past{past(read, 0, "", r, 1, 0)}, []int{}, true, 0)
	}
}

// Of several legal orders the first: lesser numbers ahead, and one that another one begins with ahead of that.
func TestFirst(t *testing.T) {
	free := func(ps ...api.Past) []api.Past { return ps }
	for what, c := range map[string]struct {
		ps    []api.Past
		first []int
		legal [][]int
	}{
		"two that are free": {
			free(tells(1, notYet, 1, 9), tells(1, notYet, 1, 9)), []int{0, 1},
			[][]int{{0, 1}, {1, 0}},
		},
		"the front of others": {
			free(tells(1, notYet, 1, 9), open(add, 0, "a", 1)), []int{0},
			[][]int{{0}, {0, 1}, {1, 0}},
		},
		"longer, but lesser": {
			free(open(add, 0, "a", 1), tells(1, notYet, 1, 9)), []int{0, 1},
			[][]int{{0, 1}, {1}, {1, 0}},
		},
		"all that were not done": {
			free(open(async, 0, "a", 1), open(shut, 0, "", 1)), []int{},
			[][]int{{}, {0}, {0, 1}, {1}},
		},
		"longer by two": {
			free(open(add, 0, "a", 1), open(add, 0, "b", 1), tells(1, notYet, 1, 9)), []int{0, 1, 2},
			[][]int{{0, 1, 2}, {0, 2}, {0, 2, 1}, {1, 0, 2}, {1, 2}, {1, 2, 0}, {2}, {2, 0}, {2, 0, 1}, {2, 1}, {2, 1, 0}},
		},
		"not by time": {
			free(tells(1, notYet, 5, 9), tells(1, notYet, 1, 9), tells(1, notYet, 3, 4)), []int{1, 2, 0},
			[][]int{{1, 2, 0}, {2, 0, 1}, {2, 1, 0}},
		},
	} {
		holds(t, what, 1, c.ps, c.first, true, len(c.ps))
		same(t, "P24.2: all legal orders: "+what, holdsAll(t, what, 1, c.ps).legal, c.legal)
	}
}

// Of pasts of which no order is legal Most tells how many can stand.
func TestMost(t *testing.T) {
	gap := appended("x", 9, 1, 20)
	for _, c := range []struct {
		what string
		ps   []api.Past
		most int
	}{
		{"none may be", []api.Past{gap}, 0},
		{"one beside it", []api.Past{gap, appended("a", 1, 1, 2)}, 1},
		{"two beside it", []api.Past{appended("a", 1, 1, 2), gap, appended("b", 2, 3, 4)}, 2},
		{"behind one that may not be", []api.Past{appended("x", 9, 1, 2), appended("a", 1, 3, 4)}, 0},
		{"beside it and behind it", []api.Past{appended("x", 9, 1, 2), appended("a", 1, 3, 4), appended("b", 1, 2, 5)}, 1},
		{"one of two", []api.Past{appended("a", 1, 1, 9), appended("b", 1, 1, 9)}, 1},
		{"the better one of two", []api.Past{appended("a", 1, 1, 9), appended("b", 1, 1, 5), reads(1, "b", 6, 9), tells(2, notYet, 1, 9)}, 3},
		{"one that was not done", []api.Past{gap, open(add, 0, "a", 1)}, 1},
		{"four that were not done", append(several(4, open(add, 0, "a", 1)), gap), 4},
		{"the gap is filled, too far", append(several(4, open(add, 0, "a", 1)), appended("x", 6, 1, 2)), 4},
		{"the gap is filled", append(several(4, open(add, 0, "a", 1)), appended("x", 5, 1, 2), gap), 5},
		{"behind a past that was not done", []api.Past{open(shut, 0, "", 1), appended("a", 1, 3, 4), gap}, 2},
		{"not done, behind one that may not be", []api.Past{appended("x", 9, 1, 2), open(add, 0, "a", 3)}, 0},
		{"a kind of nobody", []api.Past{past(0, 0, "", api.Result{}, 1, 2), tells(0, belowIt, 1, 2)}, 1},
		{"what its kind does not use", []api.Past{past(add, 1, "a", result(api.OK, 1, ""), 1, 2), tells(0, belowIt, 1, 2)}, 1},
		{"read, but not told so", []api.Past{appended("a", 1, 1, 2), reads(1, "b", 3, 4), reads(1, "a", 3, 4)}, 2},
		{"back in time", []api.Past{appended("a", 1, 1, 2), reads(1, "a", 3, 4), tells(1, notYet, 5, 6)}, 2},
		{"never to be, all in one row", []api.Past{tells(1, closed, 1, 2), tells(1, closed, 3, 4), tells(1, closed, 5, 6)}, 0},
		{"closed for good", []api.Past{past(shut, 0, "", api.Result{}, 1, 2), appended("a", 1, 3, 4), tells(1, closed, 3, 4)}, 2},
		{"a Close stands last", []api.Past{past(shut, 0, "", api.Result{}, 1, 9), appended("a", 1, 1, 9), appended("b", 2, 1, 9), gap}, 3},
	} {
		holds(t, c.what, 1, c.ps, nil, false, c.most)
		holdsAll(t, c.what, 1, c.ps)
		turned := slices.Clone(c.ps)
		slices.Reverse(turned)
		holds(t, c.what+", turned", 1, turned, nil, false, c.most)
	}
}
