package linear_test

import (
	"fmt"
	"math/rand"
	"slices"
	"strings"
	"testing"

	"flume/api"
	"flume/linear"
	"flume/model"
)

// lived is what came of calls that overlapped, in the order in which they took effect.
type lived struct {
	base int64
	ps   []api.Past
	true []int // those that took effect, in order
}

// live has n calls take effect one behind the other, each somewhere between its Begin and its End; some that were not done take none.
func live(r *rand.Rand, base int64, n, wide int) lived {
	l := lived{base: base}
	m, _ := model.New(base)
	for halves := 0; len(l.ps) < n; {
		done, half := acts(m.Next - int64(r.Intn(3)))
		p := done[r.Intn(len(done))]
		if halves < 4 && r.Intn(5) == 0 {
			p = half[r.Intn(len(half))]
			halves++
		}
		then, ok := model.Apply(m, p.Call, p.Result)
		if p.End == 0 {
			then, ok = model.Half(m, p.Call)
		} else if !ok {
			continue
		}
		if ends := then.Failed != m.Failed || then.Closed != m.Closed; ok && ends && r.Intn(5) > 0 {
			continue // not too often: there is little that may be behind it
		}
		if ok && (p.End != 0 || r.Intn(4) > 0) {
			m, l.true = then, append(l.true, len(l.ps))
		}
		point := 10 * (len(l.ps) + 1)
		l.ps = append(l.ps, at(p, max(1, point-r.Intn(wide)), point+1+r.Intn(wide)))
	}
	return l
}

// shuffled numbers the pasts anew.
func (l lived) shuffled(r *rand.Rand) lived {
	to := r.Perm(len(l.ps))
	then := lived{l.base, make([]api.Past, len(l.ps)), nil}
	for i, p := range l.ps {
		then.ps[to[i]] = p
	}
	for _, i := range l.true {
		then.true = append(then.true, to[i])
	}
	return then
}

// What lived has a legal order: the true one is legal, the first one is not behind it.
func TestLived(t *testing.T) {
	r := rand.New(rand.NewSource(2024))
	for n := range 1500 {
		l := live(r, 1+int64(n%3)*100, 2+n%11, 1+10*(n%5)).shuffled(r)
		what := fmt.Sprintf("%d: %v of %s", n, l.true, text(l.ps))
		same(t, "P24.2: what was: "+what, linear.Legal(l.base, l.ps, l.true), true)
		order, found, err := linear.Check(l.base, l.ps)
		same(t, "P24.1: what was has an order: "+what, []any{found, err}, []any{true, api.OK})
		same(t, "P24.2: Check's order: "+what, linear.Legal(l.base, l.ps, order), true)
		if slices.Compare(order, l.true) > 0 {
			t.Fatalf("P24.1: %v is behind %s", order, what)
		}
		done := 0
		for _, p := range l.ps {
			if p.End != 0 {
				done++
			}
		}
		most, err := linear.Most(l.base, l.ps)
		if most < done || most < len(order) || most < len(l.true) || most > len(l.ps) || err != api.OK {
			t.Fatalf("P24.3: Most: %d, %v, %d were done: %s", most, err, done, what)
		}
	}
}

// What lived, but for one result that came out otherwise.
func TestLivedNearly(t *testing.T) {
	r := rand.New(rand.NewSource(4202))
	none := 0
	for n := range 1500 {
		l := live(r, 1, 2+n%6, 1+10*(n%4)).shuffled(r)
		i := r.Intn(len(l.ps))
		switch p := &l.ps[i]; r.Intn(4) {
		case 0:
			p.Result.LSN++
		case 1:
			p.Result.Err = []api.Errno{api.OK, failed, closed, notYet}[r.Intn(4)]
		case 2:
			p.Call.Data, p.Result.Data = p.Result.Data, p.Call.Data
		case 3:
			j := r.Intn(len(l.ps))
			p.Result, l.ps[j].Result = l.ps[j].Result, p.Result
		}
		want := answersOf(l.base, l.ps)
		holds(t, fmt.Sprint("nearly ", n), l.base, l.ps, want.first, want.found, want.most)
		if !want.found {
			none++
		}
	}
	if none < 300 {
		t.Fatalf("few have no order: %d", none)
	}
}

// Pasts that overlap nowhere have the one order of their times, or none.
func TestNoOverlap(t *testing.T) {
	r := rand.New(rand.NewSource(42))
	found, none := 0, 0
	for n := range 600 {
		l := live(r, 1, 2+n%4, 1)
		var ps []api.Past
		for _, i := range l.true {
			if p := l.ps[i]; p.End != 0 {
				ps = append(ps, at(p, 3*len(ps)+1, 3*len(ps)+2+n%2))
			}
		}
		if n%2 > 0 { // of two that change places the results need not be
			i, j := r.Intn(len(ps)+1), r.Intn(len(ps)+1)
			if i < len(ps) && j < len(ps) {
				ps[i].Call, ps[j].Call = ps[j].Call, ps[i].Call
				ps[i].Result, ps[j].Result = ps[j].Result, ps[i].Result
			}
		}
		to := r.Perm(len(ps))
		turned, byTime := make([]api.Past, len(ps)), make([]int, len(ps))
		for i, p := range ps {
			turned[to[i]], byTime[i] = p, to[i]
		}
		want := holdsAll(t, fmt.Sprint("no overlap ", n), 1, turned)
		if goesOn(1, turned, byTime) {
			found++
			same(t, "P24.1: the order of their times: "+text(turned), want.legal, [][]int{byTime})
		} else {
			none++
			same(t, "P24.1: none: "+text(turned), want.legal, [][]int{})
		}
	}
	if found < 100 || none < 50 {
		t.Fatalf("too few: %d %d", found, none)
	}
}

// The same is answered whatever numbers the times are, as long as they stand to each other as they do; and, but for the numbers of pasts, however these are numbered.
func TestTimesMoved(t *testing.T) {
	r := rand.New(rand.NewSource(77))
	for n := range 400 {
		l := live(r, 1, 3+n%4, 25).shuffled(r)
		want, most := fmt.Sprint(linear.Check(1, l.ps)), fmt.Sprint(linear.Most(1, l.ps))
		moved := clone(l.ps)
		for i := range moved {
			moved[i].Begin = moved[i].Begin*1000 + 5
			if moved[i].End != 0 {
				moved[i].End = moved[i].End*1000 + 5
			}
		}
		same(t, "P24.1: other numbers: "+text(l.ps), fmt.Sprint(linear.Check(1, moved)), want)
		same(t, "P24.3: other numbers: "+text(l.ps), fmt.Sprint(linear.Most(1, moved)), most)
		other := l.shuffled(r)
		_, found, _ := linear.Check(1, other.ps)
		same(t, "P24.1: numbered anew: "+text(other.ps), found, strings.Contains(want, "true"))
		same(t, "P24.3: numbered anew: "+text(other.ps), fmt.Sprint(linear.Most(1, other.ps)), most)
	}
}
