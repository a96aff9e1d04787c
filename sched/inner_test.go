package sched

import (
	"testing"

	"flume/api"
)

// A task's panic is caught where its step is done; a fault of the program that comes up there is not taken for one.
func TestAFaultIsNotHidden(t *testing.T) {
	r := begin([][]api.Act{{{Kind: api.ActGuard}, {Kind: api.ActPanic, N: 5}}}, 1)
	defer func() {
		if recover() == nil {
			t.Fatal("a fault passed for a panic of the task")
		}
		if r.tasks[0].died || r.registers[7] != 5 {
			t.Fatalf("the task is %+v, register 7 is %d", r.tasks[0], r.registers[7])
		}
	}()
	r.step(&r.tasks[0])
	r.step(&r.tasks[0])
	r.step(&r.tasks[0])
	r.tasks[0].at = 2 // where no step is made
	r.step(&r.tasks[0])
}
