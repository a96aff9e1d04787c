package queue

import (
	"iter"

	"flume/api"
)

// leastCells is how many a ring first has room for.
const leastCells = 4

// ring holds items in the order in which they were pushed: a slice whose front
// goes round, so that none is moved when the first one goes. The zero one is
// empty.
type ring struct {
	cells []api.Item
	front int // where the first one stands
	count int
}

// place is where the i-th one behind the first stands, or will stand.
func (r *ring) place(i int) int {
	return (r.front + i) % len(r.cells)
}

func (r *ring) push(x api.Item) {
	if r.count == len(r.cells) {
		r.grow()
	}
	r.cells[r.place(r.count)] = x
	r.count++
}

// grow lays the items from the new front on: where they had gone round, the
// room would lie in their middle else.
func (r *ring) grow() {
	cells := make([]api.Item, max(leastCells, 2*len(r.cells)))
	n := copy(cells, r.cells[r.front:])
	copy(cells[n:], r.cells[:r.front])
	r.cells, r.front = cells, 0
}

// first is the one that goes next; a ring that is empty is not asked.
func (r *ring) first() api.Item {
	return r.cells[r.front]
}

// pop takes the first one out; a ring that is empty is not asked.
func (r *ring) pop() api.Item {
	x := r.first()
	r.front = r.place(1)
	r.count--
	return x
}

// all goes over the items, the first one first.
func (r *ring) all() iter.Seq[api.Item] {
	return func(yield func(api.Item) bool) {
		for i := range r.count {
			if !yield(r.cells[r.place(i)]) {
				return
			}
		}
	}
}
