package queue_test

import (
	"fmt"
	"slices"
	"testing"

	"flume/api"
	"flume/queue"
)

// turn has a queue hold so many, with IDs from there on, and go out again, so that its front goes on by as many.
func turn(t *testing.T, q face, from int64, n int) {
	t.Helper()
	for i := range n {
		comes(t, q, from+int64(i), 0)
	}
	out, in := q.Take(n, 0)
	if len(out) != n || len(in) > 0 {
		t.Fatalf("P19.3: Take(%d, 0): %s, and %v", n, items(out), in)
	}
}

// numbered holds that the items have the IDs from there on, and the sizes that sizeOf says.
func numbered(t *testing.T, what string, l []api.Item, from int64, n int) {
	t.Helper()
	if len(l) != n {
		t.Fatalf("%s: %d items, wanted %d", what, len(l), n)
	}
	for i, x := range l {
		if id := from + int64(i); x != (api.Item{ID: id, Size: sizeOf(id)}) {
			t.Fatalf("%s: the item %d is %v, wanted %d", what, i, x, id)
		}
	}
}

func sizeOf(id int64) int { return int(id % 7) }

// Wherever the front stands when it grows, all that is held is there, in order.
func TestTheRingGrowsWhereverItsFrontIs(t *testing.T) {
	for _, width := range []int{1, 2, 3, 4, 5, 7, 8, 15, 16, 17, 32, 33} {
		for front := range width + 1 {
			q := made(t, 1024, 1<<24)
			for i := range width { // as wide as it is to be ahead of the turn
				comes(t, q, int64(-1-i), 0)
			}
			q.Take(width, 0)
			turn(t, q, -100, front)
			for id := range int64(70) {
				comes(t, q, id, sizeOf(id))
				numbered(t, fmt.Sprintf("Held of a ring of %d at %d", width, front), q.Held(), 0, int(id)+1)
			}
			out, _ := q.Take(70, 1<<24)
			numbered(t, "Take", out, 0, 70)
			is(t, q, "|")
		}
	}
}

// It grows again and again, each time with its front somewhere within.
func TestTheRingGrowsWhileItGoesRound(t *testing.T) {
	q := made(t, 1024, 1<<24)
	put, taken := int64(0), int64(0)
	for q.Look().Held < 1024 {
		for range 3 {
			if q.Look().Held < 1024 {
				comes(t, q, put, sizeOf(put))
				put++
			}
		}
		out, _ := q.Take(1, 0)
		numbered(t, "Take", out, taken, 1)
		taken++
		comes(t, q, put, sizeOf(put))
		put++
		if put%64 < 4 {
			numbered(t, "Held", q.Held(), taken, int(put-taken))
		}
	}
	numbered(t, "Held", q.Held(), taken, 1024)
	waits(t, q, put, 0)
	out, in := q.Take(1024, 1<<24)
	numbered(t, "Take", out, taken, 1024)
	same(t, "P19.3: who came in", in, []int64{put})
}

// A queue of each Cap is filled and emptied, by pieces of each size, until its front has gone round some times.
func TestTheFrontGoesRound(t *testing.T) {
	for cap := 1; cap <= 18; cap++ {
		for piece := 1; piece <= cap; piece++ {
			q := made(t, cap, 1<<24)
			put, taken := int64(0), int64(0)
			for taken < int64(8*cap) {
				for q.Look().Held < cap {
					comes(t, q, put, sizeOf(put))
					put++
				}
				numbered(t, "Held", q.Held(), taken, cap)
				out, _ := q.Take(piece, 1<<24)
				numbered(t, "Take", out, taken, piece)
				taken += int64(piece)
			}
			ids := q.Clear()
			same(t, "P19.5: Clear", len(ids), cap-piece)
			for i, id := range ids {
				same(t, "P19.5: an ID", id, taken+int64(i))
			}
		}
	}
}

// round fills a queue of 1,024, and its line behind it, and empties it by pieces.
func round(t *testing.T, q *queue.Queue, from int64, piece int) {
	t.Helper()
	for i := range int64(2048) {
		puts(t, q, from+i, sizeOf(from+i), i < 1024, api.OK)
	}
	refuses(t, q, from+2048, 0, api.ErrMany)
	numbered(t, "Held", q.Held(), from, 1024)
	numbered(t, "Line", q.Line(), from+1024, 1024)
	left := 2048
	for at := from; left > 0; at += int64(piece) {
		out, in := q.Take(piece, 1<<24)
		numbered(t, "Take", out, at, min(piece, left))
		if inLine := max(left-1024, 0); len(in) != min(piece, inLine) {
			t.Fatalf("P19.3: Take(%d): %d came in, %d stood in line", piece, len(in), inLine)
		}
		for i, id := range in {
			same(t, "P19.3: who came in", id, at+1024+int64(i))
		}
		left -= len(out)
	}
	is(t, q, "|")
}

func TestAsManyAsMayBeManyTimes(t *testing.T) {
	q := made(t, 1024, 1<<24)
	from := int64(0)
	for _, piece := range []int{1024, 1, 3, 1000, 7, 1023, 512, 333, 100, 1024, 5} {
		round(t, q, from, piece)
		from += 2048
	}
}

// Lists that were answered are written over and appended to: the queue and other answers are as they were.
func TestListsAreNewMemory(t *testing.T) {
	spoilItems := func(l []api.Item) {
		l = append(l, api.Item{ID: -9, Size: -9})
		l = l[:cap(l)]
		for i := range l {
			l[i] = api.Item{ID: -7, Size: -7}
		}
	}
	spoilIDs := func(l []int64) {
		l = l[:cap(l)]
		for i := range l {
			l[i] = -7
		}
	}
	q := with(t, 3, 10, 4, 3, 2, 1, 1, 10, 0, 1)
	want := "1:4 2:3 3:2 | 4:1 5:1 6:10 7:0 8:1"
	for range 2 {
		held, line := q.Held(), q.Line()
		spoilItems(q.Held())
		spoilItems(q.Line())
		is(t, q, want)
		same(t, "P19.6: Held", items(held), "1:4 2:3 3:2")
		same(t, "P19.6: Line", items(line), "4:1 5:1 6:10 7:0 8:1")
		spoilItems(held)
		same(t, "P19.6: Line", items(line), "4:1 5:1 6:10 7:0 8:1")
	}
	held, line := q.Held(), q.Line()
	out, in := q.Take(2, 10)
	kept, keptIDs := slices.Clone(out), slices.Clone(in)
	is(t, q, "3:2 4:1 5:1 | 6:10 7:0 8:1")
	spoilItems(out)
	same(t, "P19.6: who came in", in, keptIDs)
	spoilIDs(in)
	is(t, q, "3:2 4:1 5:1 | 6:10 7:0 8:1")
	same(t, "P19.6: Held as it was told", items(held), "1:4 2:3 3:2")
	same(t, "P19.6: Line as it was told", items(line), "4:1 5:1 6:10 7:0 8:1")
	same(t, "P19.3: who went out", items(kept), "1:4 2:3")
	takes(t, q, 2, 10, "3:2 4:1")
	in, _ = q.Leave(6)
	same(t, "P19.4: Leave", in, []int64{7, 8})
	spoilIDs(in)
	is(t, q, "5:1 7:0 8:1 |")
	line = q.Line()
	waits(t, q, 9, 1)
	spoilItems(line)
	is(t, q, "5:1 7:0 8:1 | 9:1")
	ids := q.Clear()
	comes(t, q, 1, 1)
	waits(t, q, 2, 10)
	spoilIDs(ids)
	is(t, q, "1:1 | 2:10")
}

// A list that was answered stays as it is, whatever the queue is told behind it.
func TestAnswersStay(t *testing.T) {
	q := with(t, 3, 10, 4, 3, 2, 1, 1, 9)
	held, line := q.Held(), q.Line()
	out, in := q.Take(2, 10)
	for id := range int64(40) {
		q.Put(100+id, int(id%10))
		q.Take(int(id%3), 10)
		q.Leave(100 + id)
	}
	q.Clear()
	turn(t, q, 500, 3)
	same(t, "P19.6: Held", items(held), "1:4 2:3 3:2")
	same(t, "P19.6: Line", items(line), "4:1 5:1 6:9")
	same(t, "P19.6: who went out", items(out), "1:4 2:3")
	same(t, "P19.6: who came in", in, []int64{4, 5})
}

// Two queues know nothing of each other.
func TestTwoQueues(t *testing.T) {
	a, b := made(t, 2, 10), made(t, 1, 5)
	comes(t, a, 1, 5)
	comes(t, b, 1, 5)
	waits(t, b, 2, 1)
	comes(t, a, 2, 5)
	takes(t, a, 9, 10, "1:5 2:5")
	is(t, b, "1:5 | 2:1")
	same(t, "P19.5: Clear", b.Clear(), []int64{1, 2})
	comes(t, a, 3, 10)
	is(t, a, "3:10 |")
	is(t, b, "|")
}
