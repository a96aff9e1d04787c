package model_test

import (
	"fmt"
	"testing"

	"flume/api"
	"flume/model"
)

func alike(t *testing.T, what string, a, b api.Model, want bool) {
	t.Helper()
	same(t, "P23.4: "+what, model.Same(a, b), want)
	same(t, "P23.4: the other way round: "+what, model.Same(b, a), want)
}

// States that are unlike in one field each.
func TestSameFields(t *testing.T) {
	changes := []func(*api.Model){
		func(m *api.Model) { m.Base++ },
		func(m *api.Model) { m.First++ },
		func(m *api.Model) { m.Durable++ },
		func(m *api.Model) { m.Next++ },
		func(m *api.Model) { m.Limit-- },
		func(m *api.Model) { m.Failed = true },
		func(m *api.Model) { m.Closed = true },
		func(m *api.Model) { m.Records = append(m.Records, nil) },
	}
	for _, of := range []func() api.Model{
		func() api.Model { return api.Model{} },
		func() api.Model { m, _ := model.New(5); return m },
		func() api.Model { return in().model() },
	} {
		alike(t, "a state and itself", of(), of(), true)
		for i, change := range changes {
			m := of()
			change(&m)
			alike(t, fmt.Sprintf("change %d", i), of(), m, false)
			n := of()
			change(&n)
			alike(t, fmt.Sprintf("change %d of both", i), m, n, true)
			for j, other := range changes {
				if n := of(); i != j {
					other(&n)
					alike(t, fmt.Sprintf("the changes %d, %d", i, j), m, n, false)
				}
			}
		}
	}
}

// Records that are unlike in one of them, in one byte, in how many there are, in their order.
func TestSameRecords(t *testing.T) {
	of := func(records ...string) api.Model { return plain{records: records}.model() }
	lists := []api.Model{
		of(), of(""), of("", ""), of("", "", ""), of("a"), of("b"), of("a", ""), of("", "a"), of("a", "a"), of("a", "b"), of("b", "a"),
		of("ab"), of("ab", "a"), of("aa"), of("a", "a", "a"), of("\x00"), of("\x00\x00"), of("a\x00"), of(long4096), of(long4096[1:]), of(long4096[1:] + "y"), of("y" + long4096[1:]),
	}
	for i, a := range lists {
		for j, b := range lists {
			alike(t, fmt.Sprintf("the lists %d, %d", i, j), a, b, i == j)
		}
	}
	data := []byte(long4096)
	for i := range data {
		data[i]++
		alike(t, fmt.Sprintf("the byte %d", i), of("a", long4096), api.Model{Records: [][]byte{{'a'}, data}}, false)
		data[i]--
	}
}

// A nil list and an empty one are the same.
func TestSameEmpty(t *testing.T) {
	alike(t, "no records", api.Model{}, api.Model{Records: [][]byte{}}, true)
	alike(t, "a record of no bytes", api.Model{Records: [][]byte{nil}}, api.Model{Records: [][]byte{{}}}, true)
	alike(t, "no record, and one of no bytes", api.Model{}, api.Model{Records: [][]byte{nil}}, false)
	roomy := append(make([][]byte, 0, 9), append(make([]byte, 0, 9), 'a'))
	alike(t, "spare room", api.Model{Records: roomy}, api.Model{Records: [][]byte{{'a'}}}, true)
}
