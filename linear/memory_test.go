package linear_test

import (
	"fmt"
	"math/rand"
	"slices"
	"sync"
	"testing"

	"flume/api"
	"flume/linear"
)

// roomy is a deep copy whose lists all have spare room.
func roomy(ps []api.Past) []api.Past {
	l := append(make([]api.Past, 0, len(ps)+3), ps...)
	for i := range l {
		l[i].Call.Data = append(make([]byte, 0, len(l[i].Call.Data)+3), l[i].Call.Data...)
		l[i].Result.Data = append(make([]byte, 0, len(l[i].Result.Data)+3), l[i].Result.Data...)
	}
	return l
}

// room is all that is in lists, with their spare room.
func room(ps []api.Past, order []int) string {
	s := fmt.Sprint(order[:cap(order)])
	for _, p := range ps[:cap(ps)] {
		s += fmt.Sprintf("%+v %q %q; ", p, p.Call.Data[:cap(p.Call.Data)], p.Result.Data[:cap(p.Result.Data)])
	}
	return s
}

// scrawl writes over pasts, their spare room, and all of their lists'.
func scrawl(ps []api.Past) {
	for i := range ps {
		for _, data := range [][]byte{ps[i].Call.Data, ps[i].Result.Data} {
			data = data[:cap(data)]
			for j := range data {
				data[j] = '#'
			}
		}
	}
	ps = ps[:cap(ps)]
	for i := range ps {
		ps[i] = past(-1, -1, "written over", result(-1, -1, "written over"), -1, -1)
	}
}

// samples are pasts with an order, without one, with one error or another.
func samples() [][]api.Past {
	r := rand.New(rand.NewSource(5))
	l := [][]api.Past{
		nil,
		{appended("a", 2, 1, 9), appended("b", 1, 2, 5)},
		{appended("a", 2, 1, 2), appended("b", 1, 3, 5)},
		{open(add, 0, "a", 1), reads(1, "a", 2, 3)},
		{open(add, 0, "a", 0)},
		{tells(0, belowIt, 1, 2), tells(0, belowIt, 5, 3)},
		several(13, tells(0, belowIt, 1, 2)),
		several(5, open(add, 0, "a", 1)),
	}
	for n := range 60 {
		l = append(l, live(r, 1, 1+n%12, 1+n).shuffled(r).ps)
	}
	return l
}

// asked is all that the three calls answer.
func asked(ps []api.Past, order []int) string {
	got, found, err := linear.Check(1, ps)
	most, fault := linear.Most(1, ps)
	return fmt.Sprint(got, found, err, most, fault, linear.Legal(1, ps, got), linear.Legal(1, ps, order))
}

// What is handed in is not changed, its spare room neither.
func TestHandedInStays(t *testing.T) {
	for i, ps := range samples() {
		ps = roomy(ps)
		order := append(make([]int, 0, len(ps)+3), upTo(len(ps))...)
		was := room(ps, order)
		asked(ps, order)
		same(t, fmt.Sprintf("P24.4: sample %d", i), room(ps, order), was)
	}
}

// What was handed in is written over: what was answered stays. The same call twice answers the same.
func TestHandedInIsNotKept(t *testing.T) {
	for i, sample := range samples() {
		ps, order := roomy(sample), upTo(len(sample))
		got, found, err := linear.Check(1, ps)
		was := fmt.Sprint(got, found, err)
		all := asked(ps, order)
		same(t, fmt.Sprintf("P24.4: the same twice, sample %d", i), asked(ps, order), all)
		scrawl(ps)
		same(t, fmt.Sprintf("P24.4: the answer stays, sample %d", i), fmt.Sprint(got, found, err), was)
		linear.Check(1, ps)
		same(t, fmt.Sprintf("P24.4: behind another call, sample %d", i), fmt.Sprint(got, found, err), was)
		same(t, fmt.Sprintf("P24.4: other lists alike, sample %d", i), asked(roomy(sample), order), all)
		for j := range order {
			order[j] = -1
		}
		same(t, fmt.Sprintf("P24.4: the order was not kept, sample %d", i), asked(roomy(sample), upTo(len(sample))), all)
	}
}

// An order that was answered is written over, its spare room too: all other answers stay.
func TestAnswersApart(t *testing.T) {
	for i, sample := range samples() {
		ps := roomy(sample)
		order := upTo(len(ps))
		was, all := room(ps, order), asked(ps, order)
		first, _, _ := linear.Check(1, ps)
		second, _, _ := linear.Check(1, ps)
		wanted := fmt.Sprint(second)
		first = first[:cap(first)]
		for j := range first {
			first[j] = -7
		}
		same(t, fmt.Sprintf("P24.4: the other answer, sample %d", i), fmt.Sprint(second), wanted)
		second = append(second, 1, 2, 3)
		third, _, _ := linear.Check(1, ps)
		same(t, fmt.Sprintf("P24.4: a third one, sample %d", i), fmt.Sprint(third), wanted)
		same(t, fmt.Sprintf("P24.4: what was handed in, sample %d", i), room(ps, order), was)
		same(t, fmt.Sprintf("P24.4: all, sample %d", i), asked(ps, order), all)
	}
}

// An order is no list that was handed in to Legal, and Legal takes Check's own.
func TestOrderApart(t *testing.T) {
	ps := []api.Past{appended("a", 2, 1, 9), appended("b", 1, 2, 5)}
	order := []int{1, 0}
	same(t, "P24.2: handed in", linear.Legal(1, ps, order), true)
	got, _, _ := linear.Check(1, ps)
	got[0], got[1] = 5, 5
	same(t, "P24.4: written over", order, []int{1, 0})
	same(t, "P24.2: what it is now", linear.Legal(1, ps, got), false)
	again, _, _ := linear.Check(1, ps)
	same(t, "P24.1: again", again, []int{1, 0})
}

// Nil lists are as empty ones, in all depth.
func TestNilLists(t *testing.T) {
	for i, ps := range samples() {
		bare, empty := slices.Clone(ps), roomy(ps)
		for j := range bare {
			if len(bare[j].Call.Data) == 0 {
				bare[j].Call.Data = nil
			}
			if len(bare[j].Result.Data) == 0 {
				bare[j].Result.Data = nil
			}
		}
		same(t, fmt.Sprintf("P0.4: sample %d", i), asked(bare, nil), asked(empty, []int{}))
	}
	nothing := []api.Past{{Call: api.Call{Kind: add}, Begin: 1}, {Call: api.Call{Kind: read, LSN: 1}, Result: api.Result{LSN: 1}, Begin: 1, End: 2}}
	holds(t, "a record of no bytes", 1, nothing, []int{0, 1}, true, 2)
}

// The zero past, and pasts whose fields are all wrong.
func TestZeroPasts(t *testing.T) {
	refused(t, "the zero past", 1, []api.Past{{}}, api.ErrOrder)
	holds(t, "no call", 1, []api.Past{{Begin: 1}}, []int{}, true, 0)
	holds(t, "no call, done", 1, []api.Past{{Begin: 1, End: 2}}, nil, false, 0)
	r := rand.New(rand.NewSource(6))
	edges := []int{0, 1, -1, 2, 7, 8, 1 << 62, -1 << 63, 1<<63 - 1, 1<<63 - 2}
	edge := func() int { return edges[r.Intn(len(edges))] }
	for n := range 5000 {
		var ps []api.Past
		for range r.Intn(4) {
			ps = append(ps, past(edge(), int64(edge()), "ab"[:r.Intn(3)], result(api.Errno(edge()), int64(edge()), "ab"[:r.Intn(3)]), edge(), edge()))
		}
		base := int64(edge())
		order, found, err := linear.Check(base, ps)
		most, fault := linear.Most(base, ps)
		what := fmt.Sprintf("%d: base %d: %s", n, base, text(ps))
		if err != api.OK {
			same(t, "P24.1: "+what, []any{order, found, most, fault, linear.Legal(base, ps, upTo(len(ps)))}, []any{[]int{}, false, 0, err, false})
			continue
		}
		want := holdsAll(t, what, base, ps)
		same(t, "P24.1: "+what, []any{order, found, most, fault}, []any{want.first, want.found, want.most, api.OK})
	}
}

// Several goroutines may ask at the same time: nothing is kept from call to call.
func TestAtTheSameTime(t *testing.T) {
	all := samples()
	var want []string
	for _, ps := range all {
		want = append(want, asked(ps, upTo(len(ps))))
	}
	var group sync.WaitGroup
	wrong := make([]int, 8)
	for hand := range wrong {
		group.Go(func() {
			for i, ps := range all {
				if asked(ps, upTo(len(ps))) != want[i] {
					wrong[hand]++
				}
			}
		})
	}
	group.Wait()
	same(t, "P0.5: at the same time", wrong, make([]int, 8))
}
