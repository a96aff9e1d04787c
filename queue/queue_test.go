package queue_test

import (
	"fmt"
	"math"
	"testing"

	"flume/api"
	"flume/queue"
)

// comes and waits: an item is put, and comes in, or stands in line.
func comes(t *testing.T, q face, id int64, size int) {
	t.Helper()
	puts(t, q, id, size, true, api.OK)
}

func waits(t *testing.T, q face, id int64, size int) {
	t.Helper()
	puts(t, q, id, size, false, api.OK)
}

func puts(t *testing.T, q face, id int64, size int, want bool, wantErr api.Errno) {
	t.Helper()
	if in, err := q.Put(id, size); in != want || err != wantErr {
		t.Fatalf("P19.2: Put(%d, %d) of %s: %v, %v, wanted %v, %v", id, size, state(q), in, err, want, wantErr)
	}
}

// refuses holds that a Put answers that error, and changes nothing.
func refuses(t *testing.T, q face, id int64, size int, want api.Errno) {
	t.Helper()
	was := all(q)
	puts(t, q, id, size, false, want)
	same(t, fmt.Sprintf("P19.2: behind Put(%d, %d)", id, size), all(q), was)
}

// takes holds who goes out, as ID:Size, and who comes in.
func takes(t *testing.T, q face, most, bytes int, wantOut string, wantIn ...int64) {
	t.Helper()
	was := state(q)
	out, in := q.Take(most, bytes)
	if items(out) != wantOut || fmt.Sprint(in) != fmt.Sprint(wantIn) {
		t.Fatalf("P19.3: Take(%d, %d) of %s: %s, and %v, wanted %s, and %v", most, bytes, was, items(out), in, wantOut, wantIn)
	}
}

func leaves(t *testing.T, q face, id int64, want ...int64) {
	t.Helper()
	was := state(q)
	if in, err := q.Leave(id); fmt.Sprint(in) != fmt.Sprint(want) || err != api.OK {
		t.Fatalf("P19.4: Leave(%d) of %s: %v, %v, wanted %v", id, was, in, err, want)
	}
}

// stays holds that nobody with that ID leaves, and that nothing changes.
func stays(t *testing.T, q face, id int64) {
	t.Helper()
	was := all(q)
	if in, err := q.Leave(id); len(in) > 0 || err != api.ErrNone {
		t.Fatalf("P19.4: Leave(%d) of %s: %v, %v, wanted ErrNone", id, was, in, err)
	}
	same(t, fmt.Sprintf("P19.4: behind Leave(%d)", id), all(q), was)
}

// is holds who is held and who stands in line, and Look beside them.
func is(t *testing.T, q face, want string) {
	t.Helper()
	same(t, "P19.5: held | line", state(q), want)
	same(t, "P19.5: Look", q.Look(), api.QueueLook{Held: len(q.Held()), Bytes: bytesOf(q.Held()), Line: len(q.Line())})
}

// with is a queue into which items of those sizes were put, with the IDs 1, 2, 3 ..
func with(t *testing.T, cap, bytes int, sizes ...int) *queue.Queue {
	t.Helper()
	q := made(t, cap, bytes)
	for i, size := range sizes {
		if _, err := q.Put(int64(i+1), size); err != api.OK {
			t.Fatalf("P19.2: Put(%d, %d): %v", i+1, size, err)
		}
	}
	return q
}

func TestExamples(t *testing.T) {
	q := made(t, 2, 100)
	comes(t, q, 1, 60)
	waits(t, q, 2, 50)
	waits(t, q, 3, 1)
	refuses(t, q, 3, 1, api.ErrExists)
	refuses(t, q, 4, 101, api.ErrLong)
	same(t, "P19.5: Look", q.Look(), api.QueueLook{Held: 1, Bytes: 60, Line: 2})
	takes(t, q, 5, 10, "1:60", 2, 3)
	waits(t, q, 5, 0)
	stays(t, q, 2)
	leaves(t, q, 5)
	same(t, "P19.5: Clear", q.Clear(), []int64{2, 3})
	is(t, q, "|")
}

func TestNew(t *testing.T) {
	for _, cap := range []int{1, 2, 3, 4, 5, 1023, 1024} {
		for _, bytes := range []int{1, 2, 1<<24 - 1, 1 << 24} {
			q := made(t, cap, bytes)
			is(t, q, "|")
			same(t, "P19.5: Look", q.Look(), api.QueueLook{})
			same(t, "P19.5: Clear", q.Clear(), []int64{})
			takes(t, q, 1, 1, "")
			comes(t, q, 7, bytes)
			waits(t, q, 8, 1)
		}
	}
}

func TestNewRefuses(t *testing.T) {
	noCaps := []int{0, -1, -1024, 1025, 1026, 1<<32 + 1, 1 << 40, math.MaxInt, math.MinInt}
	noBytes := []int{0, -1, -(1 << 24), 1<<24 + 1, 1 << 25, 1<<32 + 1, math.MaxInt, math.MinInt}
	refused := func(cap, bytes int) {
		if q, err := queue.New(cap, bytes); q != nil || err != api.ErrArg {
			t.Fatalf("P19.1: New(%d, %d): %v, %v", cap, bytes, q, err)
		}
	}
	for _, cap := range noCaps {
		for _, bytes := range append(noBytes, 1, 100, 1<<24) {
			refused(cap, bytes)
		}
	}
	for _, bytes := range noBytes {
		for _, cap := range []int{1, 2, 1024} {
			refused(cap, bytes)
		}
	}
}

func TestPutOfASize(t *testing.T) {
	for _, bytes := range []int{1, 2, 100, 1<<24 - 1, 1 << 24} {
		q := made(t, 4, bytes)
		for _, size := range []int{-1, -2, -bytes, math.MinInt} {
			refuses(t, q, 1, size, api.ErrArg)
		}
		for _, size := range []int{bytes + 1, bytes + 2, 2*bytes + 1, 1<<32 + bytes, math.MaxInt} {
			refuses(t, q, 1, size, api.ErrLong)
		}
		comes(t, q, 1, 0)
		comes(t, q, 2, bytes)
		comes(t, q, 3, 0)
		is(t, q, fmt.Sprintf("1:0 2:%d 3:0 |", bytes))
		refuses(t, q, 4, bytes+1, api.ErrLong)
		refuses(t, q, 4, -1, api.ErrArg)
		waits(t, q, 4, 1)
	}
}

func TestPutWhereThereIsJustRoom(t *testing.T) {
	q := with(t, 9, 10, 4, 3)
	comes(t, q, 3, 3)
	is(t, q, "1:4 2:3 3:3 |")
	q = with(t, 9, 10, 4, 3)
	waits(t, q, 3, 4) // one byte is lacking
	is(t, q, "1:4 2:3 | 3:4")
	q = with(t, 1024, 1<<24, 1<<24-1)
	comes(t, q, 2, 1)
	comes(t, q, 3, 0)
	waits(t, q, 4, 1)
	q = with(t, 1024, 1<<24, 1)
	waits(t, q, 2, 1<<24)
}

func TestPutWhereAsManyAreHeldAsMayBe(t *testing.T) {
	q := with(t, 3, 100, 1, 0, 1)
	waits(t, q, 4, 1)
	waits(t, q, 5, 0) // its size asks for nothing, but for a place
	is(t, q, "1:1 2:0 3:1 | 4:1 5:0")
	q = with(t, 1, 100, 0)
	waits(t, q, 2, 0)
	is(t, q, "1:0 | 2:0")
}

// There is room for it, but not for the one that came ahead of it.
func TestPutBehindALine(t *testing.T) {
	q := with(t, 9, 10, 6, 5)
	waits(t, q, 3, 4)
	waits(t, q, 4, 0)
	waits(t, q, 5, 10)
	is(t, q, "1:6 | 2:5 3:4 4:0 5:10")
	takes(t, q, 1, 6, "1:6", 2, 3, 4)
	is(t, q, "2:5 3:4 4:0 | 5:10")
}

func TestPutOfAnIDThatIsThere(t *testing.T) {
	q := with(t, 2, 10, 6, 4, 5, 1)
	for id := int64(1); id <= 4; id++ {
		for _, size := range []int{0, 1, 10} {
			refuses(t, q, id, size, api.ErrExists)
		}
	}
	is(t, q, "1:6 2:4 | 3:5 4:1")
}

// One that is gone may be told again: whichever way it went.
func TestPutOfAnIDThatWent(t *testing.T) {
	q := with(t, 2, 10, 6, 4, 5, 1)
	takes(t, q, 1, 10, "1:6", 3)
	waits(t, q, 1, 2) // went out
	refuses(t, q, 1, 2, api.ErrExists)
	refuses(t, q, 3, 0, api.ErrExists) // came in from the line
	leaves(t, q, 4)
	waits(t, q, 4, 3) // left
	refuses(t, q, 4, 3, api.ErrExists)
	is(t, q, "2:4 3:5 | 1:2 4:3")
	same(t, "P19.5: Clear", q.Clear(), []int64{2, 3, 1, 4})
	comes(t, q, 4, 3) // cleared, in line
	comes(t, q, 2, 7) // cleared, held
	waits(t, q, 3, 0)
	refuses(t, q, 4, 0, api.ErrExists)
	refuses(t, q, 3, 0, api.ErrExists)
	is(t, q, "4:3 2:7 | 3:0")
}

func TestPutOfAnyID(t *testing.T) {
	ids := []int64{math.MaxInt64, math.MinInt64, 0, -1, 1, math.MaxInt32 + 1, math.MinInt32 - 1, math.MaxInt64 - 1}
	q := made(t, len(ids), 100)
	for _, id := range ids {
		comes(t, q, id, 1)
		refuses(t, q, id, 1, api.ErrExists)
	}
	waits(t, q, math.MinInt64+1, 1)
	out, _ := q.Take(len(ids), 100)
	for i, x := range out {
		same(t, "P19.3: an ID", x.ID, ids[i])
	}
	for _, id := range ids {
		stays(t, q, id) // went out
	}
	comes(t, q, 7, 99)
	for _, id := range ids {
		waits(t, q, id, 1)
		refuses(t, q, id, 1, api.ErrExists)
	}
	for _, id := range ids {
		leaves(t, q, id)
		stays(t, q, id)
	}
	is(t, q, "-9223372036854775807:1 7:99 |")
}

// IDs that differ in their upper or lower halves alone are two.
func TestIDsAreWhole(t *testing.T) {
	q := made(t, 2, 10)
	for _, id := range []int64{5, 5 + 1<<32, -5, 5 - 1<<32, 5 + 1<<62} {
		if _, err := q.Put(id, 1); err != api.OK {
			t.Fatalf("P19.2: Put(%d): %v", id, err)
		}
	}
	is(t, q, "5:1 4294967301:1 | -5:1 -4294967291:1 4611686018427387909:1")
	leaves(t, q, 5-1<<32)
	stays(t, q, 5)
	is(t, q, "5:1 4294967301:1 | -5:1 4611686018427387909:1")
}

// full is a queue of the Cap 1 in whose line 1,024 stand: 1 to 1,024, with 0 held.
func full(t *testing.T) *queue.Queue {
	t.Helper()
	q := made(t, 1, 10)
	comes(t, q, 0, 1)
	for id := range int64(1024) {
		waits(t, q, id+1, 1)
	}
	return q
}

func TestPutBehindALongLine(t *testing.T) {
	q := full(t)
	same(t, "P19.5: Look", q.Look(), api.QueueLook{Held: 1, Bytes: 1, Line: 1024})
	for _, size := range []int{0, 1, 10} {
		refuses(t, q, 2000, size, api.ErrMany)
	}
	leaves(t, q, 500)
	waits(t, q, 2000, 1) // behind 1,023
	refuses(t, q, 2001, 1, api.ErrMany)
	takes(t, q, 1, 1, "0:1", 1)
	waits(t, q, 0, 1)
	refuses(t, q, 2001, 1, api.ErrMany)
	same(t, "P19.5: Clear", len(q.Clear()), 1025)
	comes(t, q, 2001, 1)
	q = full(t)
	for id := range int64(1024) {
		takes(t, q, 1, 0, fmt.Sprintf("%d:1", id), id+1)
	}
	is(t, q, "1024:1 |")
}

func TestWhichErrorIsToldFirst(t *testing.T) {
	q := full(t)
	for _, id := range []int64{0, 1, 1024, 5000} {
		refuses(t, q, id, -1, api.ErrArg)
		refuses(t, q, id, math.MinInt, api.ErrArg)
		refuses(t, q, id, 11, api.ErrLong)
		refuses(t, q, id, math.MaxInt, api.ErrLong)
	}
	for _, id := range []int64{0, 1, 1024} {
		refuses(t, q, id, 1, api.ErrExists)
	}
	refuses(t, q, 5000, 1, api.ErrMany)
	q = with(t, 1, 10, 1, 1)
	for id := int64(1); id <= 2; id++ {
		refuses(t, q, id, -1, api.ErrArg)
		refuses(t, q, id, 11, api.ErrLong)
		refuses(t, q, id, 10, api.ErrExists)
	}
}

func TestTakeOfSoMany(t *testing.T) {
	for _, k := range []struct {
		most int
		out  string
	}{
		{0, ""}, {-1, ""}, {math.MinInt, ""}, {1, "1:3"}, {2, "1:3 2:4"}, {3, "1:3 2:4 3:2"}, {4, "1:3 2:4 3:2"}, {1024, "1:3 2:4 3:2"}, {1 << 40, "1:3 2:4 3:2"}, {math.MaxInt, "1:3 2:4 3:2"},
	} {
		for _, bytes := range []int{9, 10, 1 << 24, math.MaxInt} {
			takes(t, with(t, 3, 9, 3, 4, 2), k.most, bytes, k.out)
		}
	}
	for _, bytes := range []int{math.MinInt, -1, 0, 9, math.MaxInt} {
		q := with(t, 2, 9, 3, 4, 2)
		takes(t, q, 0, bytes, "")
		takes(t, q, -7, bytes, "")
		is(t, q, "1:3 2:4 | 3:2")
	}
}

func TestTakeOfSoManyBytes(t *testing.T) {
	for _, k := range []struct {
		bytes     int
		out, left string
	}{
		{math.MinInt, "1:3", "2:4 3:2 4:0 |"}, {-1, "1:3", "2:4 3:2 4:0 |"}, {0, "1:3", "2:4 3:2 4:0 |"},
		{2, "1:3", "2:4 3:2 4:0 |"}, {3, "1:3", "2:4 3:2 4:0 |"}, {4, "1:3", "2:4 3:2 4:0 |"}, {6, "1:3", "2:4 3:2 4:0 |"},
		{7, "1:3 2:4", "3:2 4:0 |"}, {8, "1:3 2:4", "3:2 4:0 |"},
		{9, "1:3 2:4 3:2 4:0", "|"}, {10, "1:3 2:4 3:2 4:0", "|"}, {math.MaxInt, "1:3 2:4 3:2 4:0", "|"},
	} {
		for _, most := range []int{4, 5, math.MaxInt} {
			q := with(t, 9, 9, 3, 4, 2, 0)
			takes(t, q, most, k.bytes, k.out)
			is(t, q, k.left)
		}
	}
}

// What finds no room in the batch ends it: a smaller one behind it does not go ahead.
func TestTakeNeverPassesOneOver(t *testing.T) {
	q := with(t, 9, 20, 2, 9, 1, 0)
	takes(t, q, 9, 5, "1:2")
	takes(t, q, 9, 5, "2:9") // the first one, whatever its size, and then none, not even of size 0
	is(t, q, "3:1 4:0 |")
	q = with(t, 9, 20, 6, 0, 0)
	takes(t, q, 9, 5, "1:6")
	takes(t, q, 9, 5, "2:0 3:0")
}

func TestTakeOfSizesOf0(t *testing.T) {
	q := with(t, 4, 1, 0, 0, 0, 0, 0, 0)
	is(t, q, "1:0 2:0 3:0 4:0 | 5:0 6:0")
	takes(t, q, 2, 0, "1:0 2:0", 5, 6)
	takes(t, q, 9, -1, "3:0") // 0 is above -1: the first one alone
	takes(t, q, 9, 0, "4:0 5:0 6:0")
	takes(t, q, 9, 0, "")
	is(t, q, "|")
}

func TestTakeOfNone(t *testing.T) {
	q := made(t, 3, 10)
	for _, most := range []int{math.MinInt, -1, 0, 1, 5, math.MaxInt} {
		for _, bytes := range []int{math.MinInt, -1, 0, 1, 10, math.MaxInt} {
			takes(t, q, most, bytes, "")
		}
	}
	is(t, q, "|")
	comes(t, q, 1, 10)
}

func TestWhoComesInBehindATake(t *testing.T) {
	q := with(t, 3, 10, 5, 3, 2, 4, 1, 5)
	is(t, q, "1:5 2:3 3:2 | 4:4 5:1 6:5")
	takes(t, q, 1, 0, "1:5", 4) // one, for its place
	takes(t, q, 2, 9, "2:3 3:2", 5, 6)
	is(t, q, "4:4 5:1 6:5 |")
	takes(t, q, 1, 0, "4:4") // nobody is in line
	q = with(t, 9, 10, 5, 5, 6, 1, 0)
	takes(t, q, 1, 0, "1:5") // the first of the line finds no room: neither do those behind it come in
	is(t, q, "2:5 | 3:6 4:1 5:0")
	takes(t, q, 1, 0, "2:5", 3, 4, 5)
	q = with(t, 9, 10, 3, 3, 3, 4, 6, 1)
	takes(t, q, 1, 0, "1:3", 4) // just room, and then none
	is(t, q, "2:3 3:3 4:4 | 5:6 6:1")
	takes(t, q, 9, 9, "2:3 3:3", 5) // 4 is left, which leaves room for just 6
	is(t, q, "4:4 5:6 | 6:1")
}

func TestLeave(t *testing.T) {
	line := func() *queue.Queue { return with(t, 9, 10, 8, 9, 1, 5, 1) }
	is(t, line(), "1:8 | 2:9 3:1 4:5 5:1")
	for _, k := range []struct {
		id   int64
		in   []int64
		left string
	}{
		{2, []int64{3}, "1:8 3:1 | 4:5 5:1"}, {3, nil, "1:8 | 2:9 4:5 5:1"}, {4, nil, "1:8 | 2:9 3:1 5:1"}, {5, nil, "1:8 | 2:9 3:1 4:5"},
	} {
		q := line()
		leaves(t, q, k.id, k.in...)
		is(t, q, k.left)
		stays(t, q, k.id)
	}
	q := line()
	for _, id := range []int64{1, 0, -1, 6, -2, 2 + 1<<32, math.MaxInt64, math.MinInt64} {
		stays(t, q, id) // held, or nowhere
	}
	leaves(t, q, 4)
	leaves(t, q, 2, 3, 5) // all who stand behind it come in
	is(t, q, "1:8 3:1 5:1 |")
	stays(t, q, 3) // came in meanwhile
	takes(t, q, 1, 0, "1:8")
	stays(t, q, 1) // went out
	q = with(t, 1, 10, 1, 1)
	leaves(t, q, 2) // the only one
	is(t, q, "1:1 |")
	stays(t, made(t, 1, 1), 0)
}

// Of a full queue none comes in, whoever leaves.
func TestLeaveWhereNoPlaceIsFree(t *testing.T) {
	for id := int64(3); id <= 6; id++ {
		q := with(t, 2, 10, 0, 1, 5, 0, 1, 2)
		leaves(t, q, id)
		same(t, "P19.5: Look", q.Look(), api.QueueLook{Held: 2, Bytes: 1, Line: 3})
	}
}

func TestClear(t *testing.T) {
	q := made(t, 3, 10)
	for range 2 {
		same(t, "P19.5: Clear of none", q.Clear(), []int64{})
	}
	q = with(t, 3, 10, 5, 3)
	same(t, "P19.5: Clear without a line", q.Clear(), []int64{1, 2})
	q = with(t, 3, 10, 5, 3, 4, 1, 0)
	takes(t, q, 1, 0, "1:5", 3, 4)
	same(t, "P19.5: Clear with a line", q.Clear(), []int64{2, 3, 4, 5})
	is(t, q, "|")
	same(t, "P19.5: Look", q.Look(), api.QueueLook{})
	takes(t, q, 9, 9, "")
	stays(t, q, 5)
	same(t, "P19.5: Clear again", q.Clear(), []int64{})
	comes(t, q, 5, 10) // its bounds are as they were
	comes(t, q, 2, 0)
	comes(t, q, 1, 0)
	waits(t, q, 3, 0)
	refuses(t, q, 4, 11, api.ErrLong)
	is(t, q, "5:10 2:0 1:0 | 3:0")
	q = full(t)
	ids := q.Clear()
	for i, id := range ids {
		same(t, "P19.5: an ID", id, i)
	}
	same(t, "P19.5: how many", len(ids), 1025)
}

// A nil queue, and one that New did not make, answer nothing, whatever was told to them ahead.
func TestNoQueue(t *testing.T) {
	for _, q := range []*queue.Queue{nil, {}, new(queue.Queue)} {
		for range 2 {
			for _, size := range []int{math.MinInt, -1, 0, 1, 1 << 24, 1<<24 + 1, math.MaxInt} {
				puts(t, q, 0, size, false, api.ErrArg)
				puts(t, q, 1, size, false, api.ErrArg)
				out, in := q.Take(size, size)
				same(t, "P19.6: Take", fmt.Sprint(len(out), len(in)), "0 0")
			}
			for _, id := range []int64{0, 1, -1, math.MaxInt64, math.MinInt64} {
				in, err := q.Leave(id)
				same(t, "P19.6: Leave", fmt.Sprint(len(in), err), fmt.Sprint(0, api.ErrArg))
			}
			same(t, "P19.6: Clear", len(q.Clear()), 0)
			same(t, "P19.6: Look", q.Look(), api.QueueLook{})
			same(t, "P19.6: Held and Line", len(q.Held())+len(q.Line()), 0)
		}
	}
}
