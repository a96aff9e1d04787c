package engine

import (
	"testing"

	"flume/api"
	"flume/disk"
)

// keeps is how many records' data an engine keeps, of calls too.
func (e *Engine) keeps() int {
	n := len(e.datas)
	for _, c := range e.calls {
		if c.data != nil {
			n++
		}
	}
	if e.leader != nil {
		n += len(e.leader.batch)
	}
	return n
}

// filled is an engine with five records: two are held, three stand in line.
func filled(t *testing.T, d *disk.Disk) *Engine {
	t.Helper()
	e, _, err := New(d, api.EngineParams{Store: api.Params{SegMax: 4096, Base: 1}, QueueCap: 2, QueueBytes: 1000, Pace: api.PaceParams{Most: 2, Bytes: 1000, Alpha: 1}})
	if err != api.OK {
		t.Fatal(err)
	}
	for range 5 {
		e.Begin(api.Call{Kind: api.CallAppend, Data: []byte("data")})
	}
	for id := 1; id <= 5; id++ {
		e.Step(id)
	}
	return e
}

// Data is kept until its record is written, no longer.
func TestDataGoes(t *testing.T) {
	e := filled(t, disk.New(1<<20))
	for i, want := range []int{5, 5, 5, 5, 3} { // reserved, led, gathered, written, flushed
		if got := e.keeps(); got != want {
			t.Fatalf("behind %d steps the data of %d records is kept, want %d", i, got, want)
		}
		e.Step(5)
	}
	for len(e.Ready()) > 0 {
		e.Step(e.Ready()[0])
	}
	if e.keeps() != 0 || len(e.open) != 0 {
		t.Fatalf("at the end the data of %d records is kept, and %d calls are open", e.keeps(), len(e.open))
	}
}

// Nor is it when the engine has failed, or refuses it.
func TestDataGoesOfAFailedEngine(t *testing.T) {
	d := disk.New(1 << 20)
	e := filled(t, d)
	e.Begin(api.Call{Kind: api.CallAppend, Data: make([]byte, 5000)})
	e.Step(6)
	if e.keeps() != 5 {
		t.Fatalf("the data of %d records is kept, want 5", e.keeps())
	}
	d.Arm(api.Fault{At: 1, Kind: api.FaultIO})
	for range 3 { // 5 leads, gathers, and fails to write
		e.Step(5)
	}
	if e.keeps() != 0 || !e.failed() {
		t.Fatalf("the data of %d records is kept of a log that failed", e.keeps())
	}
}

// Of data that is too long no more is kept than tells that.
func TestLongDataIsNotKept(t *testing.T) {
	e := filled(t, disk.New(1<<20))
	id, _ := e.Begin(api.Call{Kind: api.CallAsync, Data: make([]byte, 1<<20)})
	if n := cap(e.call(id).data); n > 2*api.MaxData {
		t.Fatalf("%d bytes are kept", n)
	}
}

// Other panics than a failure are no failures of the log: they pass.
func TestOtherPanicsPass(t *testing.T) {
	e := filled(t, disk.New(1<<20))
	defer func() {
		if x := recover(); x != "a fault of the program" || e.failed() {
			t.Fatalf("recovered %v, failed %v", x, e.failed())
		}
	}()
	c := e.call(1)
	c.state.step = func() state { panic("a fault of the program") }
	c.step()
}
