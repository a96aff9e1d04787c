package engine_test

import (
	"fmt"
	"testing"

	"flume/api"
)

// fill writes over a list, its spare room too.
func fill[T any](l []T, x T) {
	l = l[:cap(l)]
	for i := range l {
		l[i] = x
	}
}

// Data that is written over, at whatever moment behind Begin, is what it was in the log.
func TestDataIsNotKept(t *testing.T) {
	for moment := range 9 {
		x := opened(t, changed(func(p *api.EngineParams) { p.QueueCap = 1 }))
		var datas [][]byte
		at := 0
		writesOver := func() {
			if at == moment {
				for _, data := range datas {
					fill(data, '!')
				}
			}
			at++
		}
		for _, kind := range []int{api.CallAppend, api.CallAsync, api.CallAppend} {
			data := append(make([]byte, 0, 10), fmt.Sprint("data", len(datas))...)
			datas = append(datas, data)
			x.begin(api.Call{Kind: kind, Data: data})
		}
		writesOver() // they are begun
		x.step(1, 2, 3)
		writesOver() // one is held, two stand in line
		x.step(1)
		writesOver()
		x.step(1)
		writesOver() // one is taken, one held, one stands in line
		x.step(1)
		writesOver() // one is written
		x.step(1, 1, 2)
		x.begin(syncs())
		x.step(4, 4)
		writesOver()
		x.step(4, 4)
		writesOver()
		x.step(4, 4, 4, 4, 4, 4)
		writesOver()
		x.step(3)
		x.want("P21.5", map[int]string{1: "0 1 ", 2: "0 2 ", 3: "in 3", 4: "0 0 "})
		for i := range 3 {
			same(t, fmt.Sprint("P21.5: written over at ", moment), x.alone(read(int64(i+1))), fmt.Sprintf("0 %d data%d", i+1, i))
		}
		x.filesAlike()
	}
}

// Data that is handed in is as it was, its spare room too.
func TestDataStays(t *testing.T) {
	x := opened(t, params())
	room := []byte("abcdefgh")
	x.call(api.Call{Kind: api.CallAppend, Data: room[2:4]}, api.Call{Kind: api.CallAsync, Data: room[2:4]}, api.Call{Kind: api.CallAppend, Data: room[:0]})
	x.batch(1)
	x.step(1, 3)
	same(t, "the records", []string{x.alone(read(1)), x.alone(read(2)), x.alone(read(3))}, "[0 1 cd 0 2 cd 0 3 ]")
	same(t, "P0.3: what was handed in", string(room), "abcdefgh")
}

// What is answered is new memory: who writes over it changes nothing.
func TestAnswersAreNewMemory(t *testing.T) {
	x := opened(t, params())
	same(t, "Append", x.alone(app("record")), "0 1 ")
	x.call(next(2), read(1), read(1), next(1), async("later"))
	x.step(2, 2, 2, 2, 2)
	x.begin(read(1))
	for _, id := range []int{2, 3, 4, 5} {
		for range 2 {
			r, _ := x.e.Result(id)
			fill(r.Data, '!')
			_ = append(r.Data, "more"...)
		}
		x.want("P21.5: Result", map[int]string{2: "0 2 later", 3: "0 1 record", 4: "0 1 record", 5: "0 1 record"})
	}
	x.step(7)
	x.want("P21.5: a later one", map[int]string{7: "0 1 record"})
	x.call(app("a"), app("b"), syncs())
	one, two := x.e.Ready(), x.e.Ready()
	fill(one, -1)
	_ = append(one, 99)
	same(t, "P21.5: Ready", []any{two, x.e.Ready()}, "[[8 9 10] [8 9 10]]")
	x.step(8)
	x.wantReady("it goes on", 8)
	x.filesAlike()
}

// A nil Data is the same as an empty one.
func TestNilData(t *testing.T) {
	for _, data := range [][]byte{nil, {}} {
		x := opened(t, params())
		for kind := 1; kind <= 7; kind++ {
			x.call(api.Call{Kind: kind, Data: data})
		}
		x.want("P0.4", map[int]string{1: "in 3", 2: "0 2 ", 3: "in 3", 4: "43 0 ", 5: "43 0 ", 6: "0 0 ", 7: "in 3"})
		x.batch(1)
		x.step(1, 3, 7)
		x.want("P0.4", map[int]string{1: "0 1 ", 3: "0 0 ", 7: "0 0 "})
	}
}
