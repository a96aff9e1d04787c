package disk

import (
	"flume/api"
)

const maxAt = 1 << 32

// Arm makes these the faults that are to come, and no others.
func (d *Disk) Arm(fs ...api.Fault) api.Errno {
	if !d.made() {
		return api.ErrDown
	}
	if len(fs) > api.MaxFaults {
		return api.ErrArg
	}
	armed := map[int64]api.Fault{}
	for _, f := range fs {
		if !mayBefall(f) {
			return api.ErrArg
		}
		op := d.counts.All + f.At
		if _, twice := armed[op]; twice {
			return api.ErrArg
		}
		armed[op] = f
	}
	d.armed = armed
	return api.OK
}

func mayBefall(f api.Fault) bool {
	return f.At >= 1 && f.At <= maxAt && f.Kind >= api.FaultIO && f.Kind <= api.FaultPanic && f.Part >= 0
}

// begin counts an operation, as one of its kind too, and gives the fault that befalls it: the zero one, if none does.
func (d *Disk) begin(kind *int64) api.Fault {
	*kind++
	d.counts.All++
	f := d.armed[d.counts.All]
	delete(d.armed, d.counts.All)
	return f
}

// strike lets f keep the operation under way from being done; OK if there is no fault.
func (d *Disk) strike(f api.Fault) api.Errno {
	switch f.Kind {
	case api.FaultIO:
		return api.ErrIO
	case api.FaultFull:
		return api.ErrFull
	case api.FaultPower:
		d.up = false
		return api.ErrDown
	case api.FaultPanic:
		panic(api.Boom{Op: d.counts.All})
	}
	return api.OK
}

// strikeRoomless is strike of an operation that takes no room: that the disk is full does not keep it from being done.
func (d *Disk) strikeRoomless(f api.Fault) api.Errno {
	if f.Kind == api.FaultFull {
		return api.OK
	}
	return d.strike(f)
}
