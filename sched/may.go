package sched

import (
	"flume/api"
)

const maxSkip = 255 // acts that an ActSkip goes on further at most

// reach is of how many things an act's A and B choose one. What a Kind does
// not use chooses of one, so that it must be 0 as well.
type reach struct{ a, b int }

var reaches = [...]reach{
	api.ActLock:   {lockCount, 1},
	api.ActUnlock: {lockCount, 1},
	api.ActWait:   {condCount, lockCount},
	api.ActSignal: {condCount, 1},
	api.ActCast:   {condCount, 1},
	api.ActPut:    {queueCount, 1},
	api.ActTake:   {queueCount, registerCount},
	api.ActAdd:    {registerCount, 1},
	api.ActCopy:   {registerCount, registerCount},
	api.ActSkip:   {registerCount, 1},
	api.ActYield:  {1, 1},
	api.ActPanic:  {1, 1},
	api.ActGuard:  {1, 1},
}

// May tells whether there can be such tasks. An error that is told first is
// looked for in all of them first.
func May(tasks [][]api.Act) api.Errno {
	switch {
	case tooMany(tasks):
		return api.ErrMany
	case !every(tasks, mayKind):
		return api.ErrKind
	case !every(tasks, mayUse):
		return api.ErrArg
	}
	return api.OK
}

func tooMany(tasks [][]api.Act) bool {
	if len(tasks) > api.MaxTasks {
		return true
	}
	for _, acts := range tasks {
		if len(acts) > api.MaxCalls {
			return true
		}
	}
	return false
}

// every is whether each act may be, in a task of so many acts.
func every(tasks [][]api.Act, may func(a api.Act, acts int) bool) bool {
	for _, acts := range tasks {
		for _, a := range acts {
			if !may(a, len(acts)) {
				return false
			}
		}
	}
	return true
}

func mayKind(a api.Act, _ int) bool {
	return a.Kind >= api.ActLock && a.Kind <= api.ActGuard
}

func mayUse(a api.Act, acts int) bool {
	r := reaches[a.Kind]
	return a.A >= 0 && a.A < r.a && a.B >= 0 && a.B < r.b && mayN(a, acts)
}

func mayN(a api.Act, acts int) bool {
	switch a.Kind {
	case api.ActPut, api.ActAdd, api.ActPanic:
		return true
	case api.ActSkip:
		return a.N >= 0 && a.N <= maxSkip
	case api.ActGuard:
		return a.N >= 0 && a.N <= int64(acts)
	}
	return a.N == 0
}
