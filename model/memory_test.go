package model_test

import (
	"fmt"
	"slices"
	"testing"

	"flume/api"
	"flume/model"
)

// roomy is the state p with spare room behind its list of records and behind each of them.
func roomy(p plain) api.Model {
	m := p.model()
	list := make([][]byte, 0, len(m.Records)+3)
	for _, data := range m.Records {
		list = append(list, append(make([]byte, 0, len(data)+3), data...))
	}
	m.Records = list
	return m
}

// scrawl writes over a list's bytes, their spare room, and the list's own.
func scrawl(records [][]byte) {
	for _, data := range records {
		data = data[:cap(data)]
		for i := range data {
			data[i] = '#'
		}
	}
	records = records[:cap(records)]
	for i := range records {
		records[i] = []byte("written over")
	}
}

// room is a list with its spare room, and each record of it with its own, as text.
func room(records [][]byte) string {
	s := ""
	for _, data := range records[:cap(records)] {
		s += fmt.Sprintf("%q ", data[:cap(data)])
	}
	return s
}

// maying are all calls and results that may be.
func maying() []wanted {
	var l []wanted
	for _, w := range allWanted() {
		if w.then != nil {
			l = append(l, w)
		}
	}
	return l
}

// What is handed in is not changed, its spare room neither, whether the call may be or not.
func TestHandedInStays(t *testing.T) {
	for _, w := range allWanted() {
		m := roomy(w.in)
		c := api.Call{Kind: w.c.Kind, LSN: w.c.LSN, Data: append(make([]byte, 0, len(w.c.Data)+3), w.c.Data...)}
		r := api.Result{Err: w.r.Err, LSN: w.r.LSN, Data: append(make([]byte, 0, len(w.r.Data)+3), w.r.Data...)}
		was := fmt.Sprintf("%+v %s %q %q", plainOf(m), room(m.Records), c.Data[:cap(c.Data)], r.Data[:cap(r.Data)])
		model.Apply(m, c, r)
		model.Half(m, c)
		model.Same(m, m)
		same(t, "P23.5: "+w.text(), fmt.Sprintf("%+v %s %q %q", plainOf(m), room(m.Records), c.Data[:cap(c.Data)], r.Data[:cap(r.Data)]), was)
	}
}

// What was handed in is written over: the answer stays.
func TestHandedInIsNotKept(t *testing.T) {
	for _, w := range maying() {
		for _, half := range []bool{false, true} {
			m := roomy(w.in)
			c, r := w.c, w.r
			c.Data, r.Data = slices.Clone(c.Data), slices.Clone(r.Data)
			then, ok := model.Apply(m, c, r)
			if half {
				then, ok = model.Half(m, c)
			}
			was := fmt.Sprintf("%+v", plainOf(then))
			scrawl(m.Records)
			scrawl([][]byte{c.Data, r.Data})
			same(t, fmt.Sprintf("P23.5: %v %v %s", half, ok, w.text()), plainOf(then), was)
		}
	}
}

// An answer is written over, its spare room too: what was handed in stays, and so does every other answer.
func TestAnswersApart(t *testing.T) {
	for _, w := range maying() {
		m := roomy(w.in)
		was := fmt.Sprintf("%+v %s", plainOf(m), room(m.Records))
		first, _ := model.Apply(m, w.c, w.r)
		second, _ := model.Apply(m, w.c, w.r)
		half, _ := model.Half(m, w.c)
		wanted, halfWanted := fmt.Sprintf("%+v", plainOf(second)), fmt.Sprintf("%+v", plainOf(half))
		scrawl(first.Records)
		same(t, "P23.5: handed in: "+w.text(), fmt.Sprintf("%+v %s", plainOf(m), room(m.Records)), was)
		same(t, "P23.5: the same call twice: "+w.text(), plainOf(second), wanted)
		same(t, "P23.5: Half: "+w.text(), plainOf(half), halfWanted)
		third, _ := model.Apply(m, w.c, w.r)
		same(t, "P23.5: once more: "+w.text(), plainOf(third), wanted)
		scrawl(half.Records)
		same(t, "P23.5: behind Half: "+w.text(), plainOf(third), wanted)
	}
}

// No two records of one answer share memory, and none of them with the list's.
func TestRecordsApart(t *testing.T) {
	one := []byte("one")
	m := api.Model{Base: 1, First: 1, Durable: 1, Next: 4, Limit: top, Records: [][]byte{one, one, one[:2]}}
	then, ok := model.Apply(m, api.Call{Kind: async, Data: one}, result(0, 4, ""))
	same(t, "P23.2: a list that is there several times", fmt.Sprintf("%v %s", ok, then.Records), "true [one one on one]")
	for i := range then.Records {
		data := then.Records[i][:cap(then.Records[i])]
		for j := range data {
			data[j] = byte('0' + i)
		}
	}
	same(t, "P23.5: written over", fmt.Sprintf("%s %s", then.Records, one), "[000 111 22 333] one")
	for i := range then.Records {
		then.Records[i] = append(then.Records[i], "+++"...)
	}
	same(t, "P23.5: appended to", fmt.Sprintf("%s", then.Records), "[000+++ 111+++ 22+++ 333+++]")
}

// From one state two ways part, and each goes on as if there were no other.
func TestTwoWays(t *testing.T) {
	m, _ := model.New(1)
	var states []api.Model
	for n := range int64(20) {
		a, ok := model.Apply(m, call(add, 0, fmt.Sprint("a", n)), result(0, n+1, ""))
		same(t, "P23.2: one way", ok, true)
		b, ok := model.Half(m, call(async, 0, fmt.Sprint("b", n)))
		same(t, "P23.3: the other way", ok, true)
		states = append(states, a, b)
		for i, s := range states {
			want := ""
			for j := range i / 2 {
				want += fmt.Sprint("a", j, " ")
			}
			want += fmt.Sprint([]string{"a", "b"}[i%2], i/2)
			same(t, fmt.Sprintf("P23.5: the state %d behind %d", i, n), fmt.Sprintf("%s", s.Records), "["+want+"]")
		}
		m = a
	}
}

// The same is answered whatever the lists' spare room, and whether they are nil or empty.
func TestEmptyLists(t *testing.T) {
	for _, w := range allWanted() {
		want, may := model.Apply(w.in.model(), w.c, w.r)
		c, r := w.c, w.r
		if len(c.Data) == 0 {
			c.Data = nil
		}
		if len(r.Data) == 0 {
			r.Data = nil
		}
		got, ok := model.Apply(roomy(w.in), c, r)
		same(t, "P0.4: "+w.text(), []any{plainOf(got), ok}, []any{plainOf(want), may})
	}
	for _, none := range [][][]byte{nil, {}} {
		m := api.Model{Base: 1, First: 1, Durable: 1, Next: 1, Limit: top, Records: none}
		then, ok := model.Apply(m, api.Call{Kind: add}, api.Result{LSN: 1})
		same(t, "P0.4: a record of no bytes", fmt.Sprintf("%v %d %q", ok, then.Next, then.Records), `true 2 [""]`)
		_, ok = model.Apply(then, api.Call{Kind: read, LSN: 1}, api.Result{LSN: 1, Data: []byte{}})
		same(t, "P0.4: it is read", ok, true)
	}
}
