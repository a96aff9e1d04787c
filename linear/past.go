package linear

import (
	"flume/api"
	"flume/model"
)

func wasDone(p api.Past) bool { return p.End != 0 }

// ahead tells whether p was done when q was not yet begun.
func ahead(p, q api.Past) bool {
	return wasDone(p) && p.End < q.Begin
}

// halves is how many were not done.
func halves(ps []api.Past) int {
	n := 0
	for _, p := range ps {
		if !wasDone(p) {
			n++
		}
	}
	return n
}

// timed tells whether all numbers of pasts may be.
func timed(ps []api.Past) bool {
	for _, p := range ps {
		if p.Begin < 1 || wasDone(p) && p.End <= p.Begin {
			return false
		}
	}
	return true
}

// isOrder tells whether a list of numbers is an order of pasts, but for the kinds of those that were not done: model.Half refuses those that may not stand in one.
func isOrder(ps []api.Past, order []int) bool {
	in := make([]bool, len(ps))
	latest := 0 // the greatest Begin of those that stand: whoever was done below it is ahead of one of them
	for _, i := range order {
		if i < 0 || i >= len(ps) || in[i] || wasDone(ps[i]) && ps[i].End < latest {
			return false
		}
		in[i] = true
		latest = max(latest, ps[i].Begin)
	}
	for i, p := range ps {
		if wasDone(p) && !in[i] {
			return false
		}
	}
	return true
}

// after is the state when a past stood as the next one, and whether it may.
func after(m api.Model, p api.Past) (api.Model, bool) {
	if wasDone(p) {
		return model.Apply(m, p.Call, p.Result)
	}
	return model.Half(m, p.Call)
}
