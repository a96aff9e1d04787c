package linear

import (
	"math/bits"

	"flume/api"
)

// set is a set of numbers of pasts, as bits.
type set uint16

func (s set) has(i int) bool { return s>>i&1 == 1 }

func (s set) with(i int) set { return s | 1<<i }

func (s set) size() int { return bits.OnesCount16(uint16(s)) }

// standing is which pasts stand in an order so far, and the LSNs that those got that were not done. A state hangs on nothing else: the numbers of the others stand in their results.
type standing struct {
	in  set
	got [maxHalf]int64
}

// search goes through the orders of pasts.
type search struct {
	ps     []api.Past
	before []set          // of each past, those that are ahead of it
	slot   []int          // of each past that was not done, where standing.got has its LSN
	done   set            // those that were
	enough func(set) bool // whether the search ends where these stand
	order  []int
	tried  map[standing]struct{}
}

func newSearch(ps []api.Past) *search {
	s := &search{ps: ps, before: make([]set, len(ps)), slot: make([]int, len(ps)), tried: map[standing]struct{}{}}
	half := 0
	for i, p := range ps {
		for j, q := range ps {
			if ahead(q, p) {
				s.before[i] = s.before[i].with(j)
			}
		}
		if wasDone(p) {
			s.done = s.done.with(i)
		} else {
			s.slot[i] = half
			half++
		}
	}
	return s
}

// from goes on where these stand, in the state m, with one more past at a time, the lesser numbers first; true, as soon as it is enough.
func (s *search) from(m api.Model, these standing) bool {
	if s.enough(these.in) {
		return true
	}
	s.tried[these] = struct{}{}
	for i := range s.ps {
		if these.in.has(i) || s.before[i]&^these.in != 0 {
			continue
		}
		next := s.next(these, i, m.Next)
		if _, vain := s.tried[next]; vain {
			continue // in whatever order they came there
		}
		then, may := after(m, s.ps[i])
		if !may {
			continue
		}
		s.order = append(s.order, i)
		if s.from(then, next) {
			return true
		}
		s.order = s.order[:len(s.order)-1]
	}
	return false
}

// next is who stands when the past i comes behind these, and lsn is the next record's.
func (s *search) next(these standing, i int, lsn int64) standing {
	these.in = these.in.with(i)
	if p := s.ps[i]; !wasDone(p) && (p.Call.Kind == api.CallAppend || p.Call.Kind == api.CallAsync) {
		these.got[s.slot[i]] = lsn
	}
	return these
}
