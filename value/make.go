package value

import (
	"math"

	"flume/api"
)

// room is how much a value's size may still grow.
type room struct{ left int }

// spend takes size of what is left, if there is so much.
func (r *room) spend(size int) bool {
	if size > r.left {
		return false
	}
	r.left -= size
	return true
}

// maker makes things of plain values. It counts as it goes, so that it ends
// even where lists hold themselves.
type maker struct{ room }

// thingOf is v as a thing; false, if v may not be.
func thingOf(v api.Value) (thing, bool) {
	m := maker{room{api.MaxValue}}
	return m.thing(v, 0)
}

// thing makes v, which lies within so many lists.
func (m *maker) thing(v api.Value, lists int) (thing, bool) {
	if !unusedZero(v) || !m.spend(1+len(v.Text)) {
		return nil, false
	}
	switch v.Kind {
	case api.VNil:
		return nilThing{}, true
	case api.VBool:
		if v.Int != 0 && v.Int != 1 {
			return nil, false
		}
		return boolThing(v.Int), true
	case api.VInt:
		return intThing(v.Int), true
	case api.VReal:
		return realThing(v.Real), true
	case api.VText:
		return textThing(v.Text), true
	case api.VList:
		return m.list(v.List, lists+1)
	}
	return nil, false
}

// list makes the lists-th list within one another.
func (m *maker) list(vs []api.Value, lists int) (thing, bool) {
	// Each of vs takes 1 at least: too many are refused ahead of making room for them.
	if lists > api.MaxNest || len(vs) > m.left {
		return nil, false
	}
	ts := make(listThing, len(vs))
	for i, v := range vs {
		t, ok := m.thing(v, lists)
		if !ok {
			return nil, false
		}
		ts[i] = t
	}
	return ts, true
}

// unusedZero tells whether what v's Kind does not use is zero.
func unusedZero(v api.Value) bool {
	switch v.Kind {
	case api.VBool, api.VInt:
		v.Int = 0
	case api.VReal:
		v.Real = 0
	case api.VText:
		v.Text = ""
	case api.VList:
		v.List = nil
	}
	// By bits, for -0 == 0 holds, but -0 is not zero.
	return v.Int == 0 && math.Float64bits(v.Real) == 0 && v.Text == "" && len(v.List) == 0
}
