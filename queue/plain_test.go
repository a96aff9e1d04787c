package queue_test

import (
	"fmt"
	"math"
	"math/rand"
	"slices"
	"strings"
	"testing"

	"flume/api"
	"flume/queue"
)

func same(t *testing.T, what string, got, want any) {
	t.Helper()
	if g, w := fmt.Sprint(got), fmt.Sprint(want); g != w {
		t.Fatalf("%s: %s, wanted %s", what, g, w)
	}
}

// face is what a queue can be asked.
type face interface {
	Put(id int64, size int) (bool, api.Errno)
	Take(most, bytes int) ([]api.Item, []int64)
	Leave(id int64) ([]int64, api.Errno)
	Clear() []int64
	Look() api.QueueLook
	Held() []api.Item
	Line() []api.Item
}

// items are told as ID:Size, one behind the other.
func items(l []api.Item) string {
	var b strings.Builder
	for _, x := range l {
		fmt.Fprintf(&b, "%d:%d ", x.ID, x.Size)
	}
	return strings.TrimSpace(b.String())
}

// state is who is held and who stands in line.
func state(q face) string {
	return strings.TrimSpace(items(q.Held()) + " | " + items(q.Line()))
}

// all is everything that a queue tells without being changed.
func all(q face) string {
	return fmt.Sprintf("%s, look %+v", state(q), q.Look())
}

func bytesOf(l []api.Item) int {
	n := 0
	for _, x := range l {
		n += x.Size
	}
	return n
}

// plain is a queue by the chapter's words: two lists that are gone over each time.
type plain struct {
	cap, bytes int
	held, line []api.Item
}

func (p *plain) room(size int) bool {
	return len(p.held)+1 <= p.cap && bytesOf(p.held)+size <= p.bytes
}

func (p *plain) Put(id int64, size int) (bool, api.Errno) {
	if size < 0 {
		return false, api.ErrArg
	}
	if size > p.bytes {
		return false, api.ErrLong
	}
	for _, x := range append(p.Held(), p.line...) {
		if x.ID == id {
			return false, api.ErrExists
		}
	}
	if len(p.line) == 1024 {
		return false, api.ErrMany
	}
	if len(p.line) == 0 && p.room(size) {
		p.held = append(p.held, api.Item{ID: id, Size: size})
		return true, api.OK
	}
	p.line = append(p.line, api.Item{ID: id, Size: size})
	return false, api.OK
}

// Take looks for the longest front that may go.
func (p *plain) Take(most, bytes int) ([]api.Item, []int64) {
	n := 0
	for k := 1; k <= len(p.held) && k <= most; k++ {
		if k == 1 || bytesOf(p.held[:k]) <= bytes {
			n = k
		}
	}
	out := slices.Clone(p.held[:n])
	p.held = slices.Clone(p.held[n:])
	return out, p.enter()
}

func (p *plain) enter() []int64 {
	var ids []int64
	for len(p.line) > 0 && p.room(p.line[0].Size) {
		p.held = append(p.held, p.line[0])
		ids = append(ids, p.line[0].ID)
		p.line = slices.Clone(p.line[1:])
	}
	return ids
}

func (p *plain) Leave(id int64) ([]int64, api.Errno) {
	for i, x := range p.line {
		if x.ID == id {
			p.line = slices.Concat(p.line[:i], p.line[i+1:])
			return p.enter(), api.OK
		}
	}
	return nil, api.ErrNone
}

func (p *plain) Clear() []int64 {
	var ids []int64
	for _, x := range append(p.Held(), p.line...) {
		ids = append(ids, x.ID)
	}
	p.held, p.line = nil, nil
	return ids
}

func (p *plain) Look() api.QueueLook {
	return api.QueueLook{Held: len(p.held), Bytes: bytesOf(p.held), Line: len(p.line)}
}

func (p *plain) Held() []api.Item { return slices.Clone(p.held) }
func (p *plain) Line() []api.Item { return slices.Clone(p.line) }

// call is a call of a queue, which tells what was answered.
type call struct {
	name string
	do   func(face) string
}

func put(id int64, size int) call {
	return call{fmt.Sprintf("P19.2: Put(%d, %d)", id, size), func(q face) string {
		in, err := q.Put(id, size)
		return fmt.Sprint(in, err)
	}}
}

func take(most, bytes int) call {
	return call{fmt.Sprintf("P19.3: Take(%d, %d)", most, bytes), func(q face) string {
		out, in := q.Take(most, bytes)
		return fmt.Sprint("out ", items(out), ", in ", in)
	}}
}

func leave(id int64) call {
	return call{fmt.Sprintf("P19.4: Leave(%d)", id), func(q face) string {
		in, err := q.Leave(id)
		return fmt.Sprint("in ", in, err)
	}}
}

func clears() call {
	return call{"P19.5: Clear()", func(q face) string { return fmt.Sprint(q.Clear()) }}
}

// follows holds what the chapter says follows of any queue.
func follows(t *testing.T, what string, q face, cap, bytes int) {
	t.Helper()
	l, held, line := q.Look(), q.Held(), q.Line()
	if l != (api.QueueLook{Held: len(held), Bytes: bytesOf(held), Line: len(line)}) {
		t.Fatalf("%s: P19.5: Look %+v of %s", what, l, state(q))
	}
	if l.Held > cap || l.Bytes > bytes {
		t.Fatalf("%s: more is held than may be: %+v of %d, %d", what, l, cap, bytes)
	}
	if l.Line > 0 && (l.Held == 0 || l.Held < cap && l.Bytes+line[0].Size <= bytes) {
		t.Fatalf("%s: there is room for the first of the line: %s of %d, %d", what, state(q), cap, bytes)
	}
}

// play holds a queue against a plain one at each of the calls.
func play(t *testing.T, cap, bytes int, calls ...call) {
	t.Helper()
	q, p := made(t, cap, bytes), &plain{cap: cap, bytes: bytes}
	for i, c := range calls {
		got, want := c.do(q), c.do(p)
		if got != want {
			t.Fatalf("New(%d, %d), %s: %s, wanted %s", cap, bytes, names(calls[:i+1]), got, want)
		}
		if got, want := all(q), all(p); got != want {
			t.Fatalf("New(%d, %d), %s: then %s, wanted %s", cap, bytes, names(calls[:i+1]), got, want)
		}
	}
	follows(t, names(calls), q, cap, bytes)
}

func names(calls []call) string {
	var l []string
	for _, c := range calls {
		l = append(l, c.name)
	}
	return strings.Join(l, "; ")
}

// walks gives each list of so many of the calls.
func walks(calls []call, deep int, yield func([]call)) {
	var walk func(l []call)
	walk = func(l []call) {
		if len(l) == deep {
			yield(l)
			return
		}
		for _, c := range calls {
			walk(append(slices.Clip(l), c))
		}
	}
	walk(nil)
}

// All walks of a few calls, behind a front that makes a line.
func TestAllShortWalks(t *testing.T) {
	front := [][]call{
		nil,
		{put(1, 2), put(2, 2)},
		{put(1, 1), put(2, 3), put(3, 1), put(4, 0)},
		{put(5, 0), put(6, 1), put(7, 0), put(8, 1), take(3, 9), put(1, 2), put(2, 3), put(3, 2)}, // the ring has gone round
	}
	calls := []call{
		put(1, 2), put(2, 1), put(3, 0), put(4, 3), put(2, 4), put(1, -1),
		take(1, 0), take(2, 2), take(9, 9), take(0, 9), leave(1), leave(2), leave(3), clears(),
	}
	for _, bounds := range [][2]int{{1, 3}, {2, 3}, {3, 3}, {3, 1}, {4, 5}} {
		for _, f := range front {
			walks(calls, 3, func(l []call) { play(t, bounds[0], bounds[1], slices.Concat(f, l)...) })
		}
	}
}

// All walks that are longer, of fewer calls.
func TestAllLongerWalks(t *testing.T) {
	calls := []call{put(1, 1), put(2, 2), put(3, 1), take(1, 0), take(3, 2), leave(2)}
	for _, bounds := range [][2]int{{1, 2}, {2, 2}, {3, 3}} {
		walks(calls, 6, func(l []call) { play(t, bounds[0], bounds[1], l...) })
	}
}

// drawn is a call of any kind, most often of an ID that is new, or one that was told of late.
func drawn(r *rand.Rand, next *int64, bytes int) call {
	near := func() int64 { return *next - int64(r.Intn(12)) }
	size := r.Intn(bytes + 1)
	if r.Intn(3) > 0 {
		size = r.Intn(min(bytes, 3) + 1)
	}
	switch n := r.Intn(40); {
	case n < 22:
		*next++
		return put(*next, size)
	case n < 25:
		return put(near(), r.Intn(bytes+3)-1)
	case n < 33:
		return take(r.Intn(6), r.Intn(bytes+2))
	case n < 36:
		return take(math.MaxInt, r.Intn(2*bytes+4)-2)
	case n < 39:
		return leave(near())
	}
	if r.Intn(4) > 0 {
		return take(1, math.MinInt)
	}
	return clears()
}

func TestDrawnWalks(t *testing.T) {
	r := rand.New(rand.NewSource(19))
	for range 500 {
		cap, bytes, next := 1+r.Intn(24), 1+r.Intn(40), r.Int63n(20)-10
		var calls []call
		for range 100 {
			calls = append(calls, drawn(r, &next, bytes))
		}
		play(t, cap, bytes, calls...)
	}
}

// Who came first goes out first, but for those that left: told by the answers alone.
func TestWhoCameFirstGoesOutFirst(t *testing.T) {
	r := rand.New(rand.NewSource(20))
	for range 300 {
		cap, bytes := 1+r.Intn(9), 1+r.Intn(20)
		q := made(t, cap, bytes)
		var came, went, in []int64 // those that came and did not leave; that went out; that came in
		for id := range int64(150) {
			switch r.Intn(5) {
			case 0, 1, 2:
				now, _ := q.Put(id, r.Intn(bytes+1))
				came = append(came, id)
				if now {
					in = append(in, id)
				}
			case 3:
				out, ids := q.Take(r.Intn(5), r.Intn(bytes+1))
				for _, x := range out {
					went = append(went, x.ID)
				}
				in = append(in, ids...)
			default:
				l := q.Line()
				if len(l) > 0 {
					gone := l[r.Intn(len(l))].ID
					ids, _ := q.Leave(gone)
					in = append(in, ids...)
					came = slices.DeleteFunc(came, func(id int64) bool { return id == gone })
				}
			}
			follows(t, "what follows", q, cap, bytes)
			same(t, "who came first goes out first", went, came[:len(went)])
			same(t, "who came first comes in first", in, came[:len(in)])
			same(t, "who came in is held or went out", len(in), len(went)+q.Look().Held)
		}
	}
}

// made is a queue that is empty.
func made(t *testing.T, cap, bytes int) *queue.Queue {
	t.Helper()
	q, err := queue.New(cap, bytes)
	if q == nil || err != api.OK {
		t.Fatalf("P19.1: New(%d, %d): %v", cap, bytes, err)
	}
	return q
}
