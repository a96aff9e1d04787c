package linear_test

import (
	"fmt"
	"iter"
	"math"
	"slices"
	"testing"

	"flume/api"
	"flume/linear"
	"flume/model"
)

const (
	top     = math.MaxInt64
	add     = api.CallAppend
	async   = api.CallAsync
	syncs   = api.CallSync
	read    = api.CallRead
	next    = api.CallNext
	trunc   = api.CallTruncate
	shut    = api.CallClose
	failed  = api.ErrFailed
	closed  = api.ErrClosed
	notYet  = api.ErrNotYet
	belowIt = api.ErrTruncated
)

func same(t *testing.T, what string, got, want any) {
	t.Helper()
	if g, w := fmt.Sprintf("%+v", got), fmt.Sprintf("%+v", want); g != w {
		t.Fatalf("%s: %.2000s, want %.2000s", what, g, w)
	}
}

func result(err api.Errno, lsn int64, data string) api.Result {
	return api.Result{Err: err, LSN: lsn, Data: []byte(data)}
}

func past(kind int, lsn int64, data string, r api.Result, begin, end int) api.Past {
	return api.Past{Call: api.Call{Kind: kind, LSN: lsn, Data: []byte(data)}, Result: r, Begin: begin, End: end}
}

// appended is an Append of data that got lsn.
func appended(data string, lsn int64, begin, end int) api.Past {
	return past(add, 0, data, result(api.OK, lsn, ""), begin, end)
}

// reads is a Read that told lsn's data.
func reads(lsn int64, data string, begin, end int) api.Past {
	return past(read, lsn, "", result(api.OK, lsn, data), begin, end)
}

// tells is a Read that came to an error.
func tells(lsn int64, err api.Errno, begin, end int) api.Past {
	return past(read, lsn, "", result(err, 0, ""), begin, end)
}

// open is a call that was not done.
func open(kind int, lsn int64, data string, begin int) api.Past {
	return past(kind, lsn, data, api.Result{}, begin, 0)
}

func text(ps []api.Past) string {
	s := ""
	for i, p := range ps {
		s += fmt.Sprintf("%d: kind %d %d %.8q {%d %d %.8q} %d to %d; ", i, p.Call.Kind, p.Call.LSN, p.Call.Data, p.Result.Err, p.Result.LSN, p.Result.Data, p.Begin, p.End)
	}
	return s
}

// clone is a deep copy.
func clone(ps []api.Past) []api.Past {
	l := slices.Clone(ps)
	for i := range l {
		l[i].Call.Data, l[i].Result.Data = slices.Clone(l[i].Call.Data), slices.Clone(l[i].Result.Data)
	}
	return l
}

func isAhead(p, q api.Past) bool { return p.End != 0 && p.End < q.Begin }

// mayLack tells whether a past need not stand in an order; mayStand, whether it may.
func mayLack(p api.Past) bool { return p.End == 0 }
func mayStand(p api.Past) bool {
	return p.End != 0 || slices.Contains([]int{add, async, trunc, shut}, p.Call.Kind)
}

// likeOrder tells whether a list is as an order, but that it need not have all that were done.
func likeOrder(ps []api.Past, list []int) bool {
	for at, i := range list {
		if i < 0 || i >= len(ps) || slices.Contains(list[:at], i) || !mayStand(ps[i]) {
			return false
		}
		for _, ahead := range list[:at] {
			if isAhead(ps[i], ps[ahead]) {
				return false
			}
		}
	}
	return true
}

// isOrder tells whether a list is an order.
func isOrder(ps []api.Past, list []int) bool {
	for i, p := range ps {
		if !mayLack(p) && !slices.Contains(list, i) {
			return false
		}
	}
	return likeOrder(ps, list)
}

// isFront tells whether all that are ahead of one of a list are in it.
func isFront(ps []api.Past, list []int) bool {
	for i, p := range ps {
		for _, j := range list {
			if isAhead(p, ps[j]) && !slices.Contains(list, i) {
				return false
			}
		}
	}
	return true
}

// goesOn tells whether each result of a list may be, one behind the other.
func goesOn(base int64, ps []api.Past, list []int) bool {
	m, err := model.New(base)
	ok := err == api.OK
	for _, i := range list {
		if p := ps[i]; p.End != 0 && ok {
			m, ok = model.Apply(m, p.Call, p.Result)
		} else if ok {
			m, ok = model.Half(m, p.Call)
		}
	}
	return ok
}

// lists are all lists of numbers below n, each at most once, the lesser first, and each ahead of those that begin with it.
func lists(n int) iter.Seq[[]int] {
	return func(yield func([]int) bool) { listsFrom(nil, n, yield) }
}

func listsFrom(front []int, n int, yield func([]int) bool) bool {
	if !yield(slices.Clone(front)) {
		return false
	}
	for i := range n {
		if !slices.Contains(front, i) && !listsFrom(append(slices.Clone(front), i), n, yield) {
			return false
		}
	}
	return true
}

// answers are what the three calls are to answer of pasts.
type answers struct {
	first []int
	found bool
	legal [][]int // all legal orders
	most  int
}

// answersOf goes through all lists one by one, but for those that begin with one that may not be.
func answersOf(base int64, ps []api.Past) answers {
	var a answers
	a.grow(base, ps, []int{})
	return a
}

func (a *answers) grow(base int64, ps []api.Past, list []int) {
	if !likeOrder(ps, list) || !goesOn(base, ps, list) {
		return
	}
	if isFront(ps, list) {
		a.most = max(a.most, len(list))
	}
	if isOrder(ps, list) {
		if !a.found {
			a.first, a.found = list, true
		}
		a.legal = append(a.legal, list)
	}
	for i := range ps {
		a.grow(base, ps, append(slices.Clone(list), i))
	}
}

// holds asks Check and Most, and holds their answers against those that are wanted; Check's order must be Legal.
func holds(t *testing.T, what string, base int64, ps []api.Past, order []int, found bool, most int) {
	t.Helper()
	got, ok, err := linear.Check(base, ps)
	same(t, "P24.1: "+what+": Check: "+text(ps), []any{got, ok, err}, []any{order, found, api.OK})
	n, err := linear.Most(base, ps)
	same(t, "P24.3: "+what+": Most: "+text(ps), []any{n, err}, []any{most, api.OK})
	if found {
		same(t, "P24.2: "+what+": Check's order: "+text(ps), linear.Legal(base, ps, got), true)
	}
}

// holdsAll holds what all three calls answer of few pasts against all lists of their numbers, gone through one by one.
func holdsAll(t *testing.T, what string, base int64, ps []api.Past) answers {
	t.Helper()
	want := answersOf(base, ps)
	holds(t, what, base, ps, want.first, want.found, want.most)
	legal := want.legal
	for list := range lists(len(ps)) {
		is := len(legal) > 0 && slices.Equal(legal[0], list)
		if is {
			legal = legal[1:]
		}
		if got := linear.Legal(base, ps, list); got != is {
			t.Fatalf("P24.2: %s: Legal of %v: %v, want %v: %s", what, list, got, is, text(ps))
		}
	}
	return want
}

// refused has Check and Most answer an error.
func refused(t *testing.T, what string, base int64, ps []api.Past, want api.Errno) {
	t.Helper()
	order, found, err := linear.Check(base, ps)
	same(t, "P24.1: "+what, []any{len(order), found, err}, []any{0, false, want})
	n, err := linear.Most(base, ps)
	same(t, "P24.3: "+what, []any{n, err}, []any{0, want})
}
