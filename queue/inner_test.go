package queue

import (
	"slices"
	"testing"

	"flume/api"
)

// walk has a ring hold so many for a long while, one going out for each that comes in, and tells how often its front came round.
func walk(t *testing.T, r *ring, held, steps int) int {
	t.Helper()
	var want []api.Item
	rounds := 0
	for i := range held + steps {
		x := api.Item{ID: int64(i), Size: i % 5}
		r.push(x)
		want = append(want, x)
		if r.count <= held {
			continue
		}
		front := r.front
		if got := r.pop(); got != want[0] {
			t.Fatalf("pop: %v, wanted %v", got, want[0])
		}
		want = want[1:]
		if r.front < front {
			rounds++
		}
		if got := slices.Collect(r.all()); !slices.Equal(got, want) {
			t.Fatalf("all: %v, wanted %v", got, want)
		}
	}
	return rounds
}

// The front goes round, in a slice that is as long as what was held at once asks for, however many went through it.
func TestTheRingGoesRound(t *testing.T) {
	for held := range 70 {
		var r ring
		const steps = 1000
		rounds := walk(t, &r, held, steps)
		if most := held + 1; len(r.cells) > max(leastCells, 2*most-1) {
			t.Fatalf("%d cells, where at most %d were held", len(r.cells), most)
		}
		if least := steps/len(r.cells) - 1; rounds < least {
			t.Fatalf("of %d cells the front came round %d times in %d steps", len(r.cells), rounds, steps)
		}
	}
}

// Going over it may be left early, gone over again, and nested.
func TestGoingOverTheRing(t *testing.T) {
	var r ring
	for range r.all() {
		t.Fatal("an empty ring has none")
	}
	walk(t, &r, 3, 2) // its items have gone round
	l := r.all()
	n := 0
	for x := range l {
		for y := range l {
			n++
			if y == x {
				break
			}
		}
	}
	if n != 1+2+3 {
		t.Fatalf("%d were gone over", n)
	}
}

// What a queue keeps does not grow with how much went through it, and what was cleared is not kept.
func TestTheQueueKeepsNoMoreThanItMust(t *testing.T) {
	q, _ := New(3, 10)
	for id := range int64(5000) {
		q.Put(id, 1)
		if id > 4 {
			q.Take(1, 1)
		}
	}
	if len(q.held.cells) > 4 || len(q.line) != 2 || cap(q.line) > 16 {
		t.Fatalf("%d cells, a line of %d in room for %d", len(q.held.cells), len(q.line), cap(q.line))
	}
	q.Clear()
	if q.held.cells != nil || q.line != nil {
		t.Fatal("what was cleared is kept")
	}
}
