package model_test

import (
	"fmt"
	"math"
	"testing"

	"flume/api"
	"flume/model"
)

// half is a state, a call that took effect, and the state then; a nil one, where that may not be.
type half struct {
	in   plain
	c    api.Call
	then func(*plain)
}

func halves() []half {
	first := func(n int64) func(*plain) { return func(p *plain) { p.first, p.durable = n, max(p.durable, n) } }
	l := []half{
		{in(), call(trunc, 2, ""), asIs},
		{in(), call(trunc, 1, ""), asIs},
		{in(), call(trunc, math.MinInt64, ""), asIs},
		{in(), call(trunc, 3, ""), first(3)},
		{in(), call(trunc, 5, ""), first(5)},
		{in(), call(trunc, 6, ""), nil},
		{in(limit(4)), call(trunc, 4, ""), first(4)},
		{in(limit(4)), call(trunc, 5, ""), nil},
		{in(isFailed), call(trunc, 3, ""), nil},
		{in(isClosed), call(trunc, 3, ""), nil},
		{in(), call(trunc, 3, "x"), nil},
		{in(), call(shut, 0, ""), isClosed},
		{in(limit(4)), call(shut, 0, ""), isClosed}, // of Limit and Failed nothing is asked here
		{in(isFailed), call(shut, 0, ""), isClosed},
		{in(isClosed), call(shut, 0, ""), nil},
		{in(isFailed, isClosed), call(shut, 0, ""), nil},
		{in(), call(shut, 1, ""), nil},
		{in(), call(shut, 0, "x"), nil},
	}
	for _, kind := range []int{add, async} {
		l = append(l, []half{
			{in(), call(kind, 0, "x"), gets("x")},
			{in(), call(kind, 0, ""), gets("")},
			{in(limit(5)), call(kind, 0, "x"), gets("x")},
			{in(limit(3)), call(kind, 0, "x"), gets("x")},
			{in(), call(kind, 0, long4096), gets(long4096)},
			{in(), call(kind, 0, long4097), nil},
			{full(1), call(kind, 0, "x"), gets("x")},
			{full(0), call(kind, 0, "x"), nil},
			{in(isFailed), call(kind, 0, "x"), nil},
			{in(isClosed), call(kind, 0, "x"), nil},
			{in(isFailed, isClosed), call(kind, 0, "x"), nil},
			{in(), call(kind, 5, "x"), nil},
			{in(), call(kind, -1, "x"), nil},
		}...)
	}
	// The others take no effect, in whatever state.
	for _, kind := range []int{syncs, read, next, 0, -1, 8, math.MinInt64, math.MaxInt64} {
		for _, p := range []plain{in(), in(isFailed), in(isClosed), in(isFailed, isClosed), in(limit(3)), full(0)} {
			for _, lsn := range []int64{0, 2, 5} {
				l = append(l, half{p, call(kind, lsn, ""), nil}, half{p, call(kind, lsn, "x"), nil})
			}
		}
	}
	return l
}

func TestHalf(t *testing.T) {
	for _, h := range halves() {
		m, ok := model.Half(h.in.model(), h.c)
		want := plain{}
		if h.then != nil {
			want = h.in
			want.records = append([]string{}, want.records...)
			h.then(&want)
		}
		what := fmt.Sprintf("P23.3: %+v: %s", h.in, callText(h.c))
		same(t, what, []any{plainOf(m), ok}, []any{want, h.then != nil})
		holdsHalf(t, rows(), h.in, h.c)
	}
}

// What is not done may be all the same what a done one would have told: Half comes to what Apply does of its OK.
func TestHalfAsApply(t *testing.T) {
	for _, p := range smallStates(1) {
		for lsn := int64(0); lsn <= 4; lsn++ {
			asDone(t, p, call(trunc, lsn, ""), api.Result{})
		}
		asDone(t, p, call(async, 0, "x"), api.Result{LSN: p.next})
	}
}

func asDone(t *testing.T, p plain, c api.Call, r api.Result) {
	t.Helper()
	a, may := model.Apply(p.model(), c, r)
	h, ok := model.Half(p.model(), c)
	same(t, fmt.Sprintf("P23.3: %+v: %s", p, callText(c)), []any{ok, h}, []any{may, a})
}
