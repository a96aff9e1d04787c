package linear_test

import (
	"fmt"
	"math"
	"testing"

	"flume/api"
	"flume/linear"
)

// The chapter's own table of examples.
func TestExamples(t *testing.T) {
	one := []api.Past{appended("a", 2, 1, 9), appended("b", 1, 2, 5)}
	holds(t, "example 1", 1, one, []int{1, 0}, true, 2)
	two := []api.Past{appended("a", 2, 1, 2), appended("b", 1, 3, 5)}
	holds(t, "example 2", 1, two, nil, false, 0)
	three := []api.Past{open(add, 0, "a", 1), reads(1, "a", 2, 3)}
	holds(t, "example 3", 1, three, []int{0, 1}, true, 2)
	holds(t, "example 4", 1, nil, []int{}, true, 0)
	for what, c := range map[string]struct {
		ps    []api.Past
		order []int
		legal bool
	}{
		"example 1":            {one, []int{1, 0}, true},
		"example 1, turned":    {one, []int{0, 1}, false},
		"example 2, by time":   {two, []int{0, 1}, false},
		"example 2, by number": {two, []int{1, 0}, false},
		"example 3":            {three, []int{0, 1}, true},
		"example 3, turned":    {three, []int{1, 0}, false},
		"example 3, without":   {three, []int{1}, false},
		"example 4":            {nil, nil, true},
	} {
		same(t, "P24.2: "+what, linear.Legal(1, c.ps, c.order), c.legal)
	}
	holdsAll(t, "example 1", 1, one)
	holdsAll(t, "example 2", 1, two)
	holdsAll(t, "example 3", 1, three)
}

func TestNoPasts(t *testing.T) {
	for _, base := range []int64{1, 2, 1 << 32, top - 1, top} {
		for _, none := range [][]api.Past{nil, {}, make([]api.Past, 0, 5)} {
			what := fmt.Sprintf("no pasts, base %d", base)
			holds(t, what, base, none, []int{}, true, 0)
			for _, order := range [][]int{nil, {}, make([]int, 0, 5)} {
				same(t, "P24.2: "+what, linear.Legal(base, none, order), true)
			}
			for _, order := range [][]int{{0}, {-1}, {1}, {0, 0}} {
				same(t, fmt.Sprintf("P24.2: %s: %v", what, order), linear.Legal(base, none, order), false)
			}
		}
	}
}

func TestBase(t *testing.T) {
	for _, base := range []int64{1, 2, 1 << 32, top - 1} {
		what := fmt.Sprintf("base %d", base)
		holds(t, what, base, []api.Past{appended("a", base, 1, 2)}, []int{0}, true, 1)
		holds(t, what+", not the first number", base, []api.Past{appended("a", base+1, 1, 2)}, nil, false, 0)
		holds(t, what+", not done", base, []api.Past{reads(base, "a", 2, 3), open(async, 0, "a", 1)}, []int{1, 0}, true, 2)
	}
	// The greatest base has no number left.
	holds(t, "no number", top, []api.Past{appended("a", top, 1, 2)}, nil, false, 0)
	holds(t, "the numbers' end", top, []api.Past{past(add, 0, "a", result(api.ErrEnd, 0, ""), 1, 2)}, []int{0}, true, 1)
	holds(t, "no number, not done", top, []api.Past{open(add, 0, "a", 1), tells(top, notYet, 1, 2)}, []int{1}, true, 1)
	holds(t, "the last number", top-1, []api.Past{past(add, 0, "b", result(api.ErrEnd, 0, ""), 1, 9), appended("a", top-1, 1, 9)}, []int{1, 0}, true, 2)
	holds(t, "the last number is read", top-1, []api.Past{reads(top-1, "b", 5, 9), open(add, 0, "a", 1), open(add, 0, "b", 1)}, []int{2, 0}, true, 2)
	for _, base := range []int64{0, -1, -2, math.MinInt64} {
		for _, ps := range [][]api.Past{nil, {appended("a", base, 1, 2)}, {open(add, 0, "a", 1)}} {
			what := fmt.Sprintf("base %d, %d pasts", base, len(ps))
			refused(t, what, base, ps, api.ErrArg)
			same(t, "P24.2: "+what, linear.Legal(base, ps, nil), false)
			same(t, "P24.2: "+what, linear.Legal(base, ps, []int{0}), false)
		}
	}
}

// several are n pasts alike.
func several(n int, p api.Past) []api.Past {
	var l []api.Past
	for range n {
		l = append(l, p)
	}
	return l
}

// upTo are the numbers below n.
func upTo(n int) []int {
	l := []int{}
	for i := range n {
		l = append(l, i)
	}
	return l
}

func TestMany(t *testing.T) {
	below := tells(0, belowIt, 1, 2)
	half := open(add, 0, "a", 1)
	for n := range 13 {
		holds(t, fmt.Sprint(n, " pasts"), 1, several(n, below), upTo(n), true, n)
	}
	for n := range 5 {
		holds(t, fmt.Sprint(n, " not done"), 1, several(n, half), []int{}, true, n)
		holds(t, fmt.Sprint(n, " not done and others"), 1, append(several(n, half), several(12-n, below)...), upTo(12), true, 12)
	}
	holds(t, "4 not done that can't stand", 1, append(several(4, open(read, 1, "", 1)), below), []int{4}, true, 1)
	for what, ps := range map[string][]api.Past{
		"13 pasts":                        several(13, below),
		"14 pasts":                        several(14, below),
		"1000 pasts":                      several(1000, below),
		"13 pasts, none legal":            several(13, appended("a", 7, 1, 2)),
		"13 pasts, 4 not done":            append(several(9, below), several(4, half)...),
		"13 pasts, 5 not done":            append(several(8, below), several(5, half)...),
		"5 not done":                      several(5, half),
		"12 not done":                     several(12, half),
		"5 not done and others":           append(several(7, below), several(5, half)...),
		"5 not done that can't stand":     several(5, open(read, 1, "", 1)),
		"5 not done, 1 that can't stand":  append(several(4, half), open(syncs, 0, "", 1)),
		"5 not done, of a kind of nobody": several(5, open(0, 0, "", 1)),
	} {
		refused(t, what, 1, ps, api.ErrMany)
		refused(t, what+", the greatest base", top, ps, api.ErrMany)
	}
}

// times are a past's numbers, and whether they may be.
type times struct {
	begin, end int
	may        bool
}

func allTimes() []times {
	return []times{
		{1, 0, true}, {1, 2, true}, {1, 3, true}, {2, 3, true}, {5, 6, true}, {5, 0, true}, {1, math.MaxInt, true},
		{math.MaxInt - 1, math.MaxInt, true}, {math.MaxInt, 0, true},
		{0, 0, false}, {0, 1, false}, {0, 2, false}, {-1, 0, false}, {-1, 1, false}, {-5, 5, false}, {math.MinInt, 0, false}, {math.MinInt, 1, false},
		{1, 1, false}, {2, 2, false}, {2, 1, false}, {3, 1, false}, {math.MaxInt, math.MaxInt, false}, {math.MaxInt, 1, false},
		{1, -1, false}, {2, -1, false}, {1, math.MinInt, false}, {math.MaxInt, math.MinInt, false}, {0, -1, false}, {-1, -1, false}, {-5, -3, false},
		{math.MinInt, math.MinInt, false},
	}
}

func TestTimes(t *testing.T) {
	for _, c := range allTimes() {
		p := past(async, 0, "a", result(api.OK, 1, ""), c.begin, c.end)
		order := []int{}
		if c.end != 0 {
			order = []int{0}
		}
		what := fmt.Sprintf("%d to %d", c.begin, c.end)
		if !c.may {
			refused(t, what, 1, []api.Past{p}, api.ErrOrder)
			same(t, "P24.2: "+what, linear.Legal(1, []api.Past{p}, []int{0}), false)
			same(t, "P24.2: none stands: "+what, linear.Legal(1, []api.Past{p}, nil), false)
		} else {
			holds(t, what, 1, []api.Past{p}, order, true, 1)
			same(t, "P24.2: "+what, linear.Legal(1, []api.Past{p}, []int{0}), true)
		}
		for at := range 3 {
			ps := several(3, tells(0, belowIt, 1, 2))
			ps[at] = p
			what := fmt.Sprintf("%s, at %d", what, at)
			if !c.may {
				refused(t, what, 1, ps, api.ErrOrder)
				same(t, "P24.2: "+what, linear.Legal(1, ps, upTo(3)), false)
			} else {
				same(t, "P24.2: "+what, len(answersOf(1, ps).legal) > 0, true)
				holdsAll(t, what, 1, ps)
			}
		}
	}
	// A wrong number counts though there would be no order anyhow, and of a past that would not stand.
	refused(t, "none is legal", 1, []api.Past{appended("a", 7, 1, 2), appended("b", 7, 2, 2)}, api.ErrOrder)
	refused(t, "a Sync that was not done", 1, []api.Past{open(syncs, 0, "", 0)}, api.ErrOrder)
	refused(t, "the last of 12", 1, append(several(11, tells(0, belowIt, 1, 2)), open(add, 0, "", 0)), api.ErrOrder)
}

// Each pair of errors at once, and all three: the first is answered.
func TestFirstError(t *testing.T) {
	fine, half := tells(0, belowIt, 1, 2), open(add, 0, "a", 1)
	early, late := tells(0, belowIt, 0, 2), tells(0, belowIt, 2, 2)
	for _, base := range []int64{0, -1, math.MinInt64} {
		refused(t, "base and many", base, several(13, fine), api.ErrArg)
		refused(t, "base and many not done", base, several(5, half), api.ErrArg)
		refused(t, "base and Begin", base, []api.Past{early}, api.ErrArg)
		refused(t, "base and End", base, []api.Past{fine, late}, api.ErrArg)
		refused(t, "all", base, append(several(13, early), several(5, open(add, 0, "", 0))...), api.ErrArg)
	}
	for _, bad := range []api.Past{early, late, open(add, 0, "a", 0), tells(0, belowIt, 2, -1)} {
		refused(t, "many and "+text([]api.Past{bad}), 1, append([]api.Past{bad}, several(12, fine)...), api.ErrMany)
		refused(t, "many, behind them "+text([]api.Past{bad}), 1, append(several(12, fine), bad), api.ErrMany)
		refused(t, "many not done and "+text([]api.Past{bad}), 1, append([]api.Past{bad}, several(5, half)...), api.ErrMany)
		refused(t, "many not done, behind them "+text([]api.Past{bad}), 1, append(several(5, half), bad), api.ErrMany)
	}
	refused(t, "the fifth that was not done has no Begin", 1, append(several(4, half), open(add, 0, "a", 0)), api.ErrMany)
	refused(t, "an End below 0 is no past that was not done", 1, append(several(4, half), past(add, 0, "a", api.Result{}, 1, -1)), api.ErrOrder)
}
