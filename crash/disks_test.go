package crash_test

import (
	"fmt"
	"math/rand"

	"flume/api"
	"flume/disk"
)

// A making of a disk: called again, it makes another one like it.
type making struct {
	what string
	make func() *disk.Disk
	ways int64
}

// lasting makes a disk with a and b, whose names last, each with two bytes that do, and a tail of so many.
func lasting(a, b int) *disk.Disk {
	d := disk.New(1 << 12)
	for _, s := range []string{"a", "b"} {
		d.Create(s)
		d.Append(s, []byte(s+"!"))
		d.Sync(s)
	}
	d.SyncDir()
	d.Append("a", []byte("123456789")[:a])
	d.Append("b", []byte("987654321")[:b])
	return d
}

// laid is a lasting one to which something was done.
func laid(a, b int, do func(d *disk.Disk)) func() *disk.Disk {
	return func() *disk.Disk {
		d := lasting(a, b)
		do(d)
		return d
	}
}

// example is the chapter's disk.
func example() *disk.Disk {
	d := disk.New(100)
	d.Create("a")
	d.SyncDir()
	d.Append("a", []byte("ab"))
	d.Sync("a")
	d.Append("a", []byte("cde"))
	d.Create("b")
	d.Append("b", []byte("z"))
	return d
}

// makings have the ways that their tails come to, a sum of products, one for each Dir.
func makings() []making {
	return []making{
		{"the example", example, 4 + 4*2},
		{"no file", func() *disk.Disk { return disk.New(0) }, 1},
		{"no tail", laid(0, 0, func(d *disk.Disk) {}), 1},
		{"two tails", laid(2, 3, func(d *disk.Disk) {}), 3 * 4},
		{"a tail ahead of none", laid(2, 0, func(d *disk.Disk) {}), 3},
		{"a tail behind none", laid(0, 2, func(d *disk.Disk) {}), 3},
		{"just crashed", laid(2, 3, func(d *disk.Disk) { d.Remove("a"); d.Crash(fate(0, 1)) }), 1},
		{"crashed, then a tail", laid(2, 3, func(d *disk.Disk) { d.Crash(fate(0, 1)); d.Append("a", []byte("+")) }), 2},
		{"a Create", laid(1, 2, func(d *disk.Disk) { d.Create("aa"); d.Append("aa", []byte("new")) }), 2*3 + 2*4*3},
		{"a Create without a tail", laid(1, 2, func(d *disk.Disk) { d.Create("c") }), 2*3 + 2*3},
		{"the first Create", func() *disk.Disk { d := disk.New(9); d.Create("x"); d.Append("x", []byte("12")); return d }, 1 + 3},
		{"a Rename", laid(1, 2, func(d *disk.Disk) { d.Rename("a", "c") }), 2*3 + 3*2},
		{"a Rename onto a file with a tail", laid(1, 3, func(d *disk.Disk) { d.Rename("a", "b") }), 2*4 + 2},
		{"a Rename onto itself", laid(1, 3, func(d *disk.Disk) { d.Rename("a", "a") }), 2 * 4},
		{"a Remove", laid(1, 3, func(d *disk.Disk) { d.Remove("a") }), 2*4 + 4},
		{"two Removes", laid(1, 3, func(d *disk.Disk) { d.Remove("b"); d.Remove("a") }), 2*4 + 2 + 1},
		{"a Remove, and a Create of that name", laid(1, 3, func(d *disk.Disk) { d.Remove("a"); d.Create("a"); d.Append("a", []byte("zz")) }), 2*4 + 4 + 3*4},
		{"changes of every kind", laid(1, 3, several), 2*4 + 2*4*3 + 4*3*2 + 3*2 + 2 + 5*2},
		{"a tail that was cut", laid(5, 3, func(d *disk.Disk) { d.Cut("a", 4); d.Cut("b", 1) }), 3},
		{"a tail that was spoilt", laid(3, 1, func(d *disk.Disk) {
			d.Arm(api.Fault{At: 1, Kind: api.FaultIO})
			d.Sync("a")
			d.Append("a", []byte("*"))
		}), 5 * 2},
		{"faults that are armed", laid(1, 1, func(d *disk.Disk) {
			d.Arm(api.Fault{At: 1, Kind: api.FaultIO}, api.Fault{At: 4, Kind: api.FaultPanic, Part: 1}, api.Fault{At: 7, Kind: api.FaultPower})
		}), 2 * 2},
		{"down", laid(1, 2, func(d *disk.Disk) {
			d.Remove("b")
			d.Arm(api.Fault{At: 1, Kind: api.FaultPower, Part: 2})
			d.Append("a", []byte("lost"))
		}), 4*3 + 4},
		{"behind a panic", laid(1, 2, func(d *disk.Disk) {
			d.Arm(api.Fault{At: 1, Kind: api.FaultPanic, Part: 3})
			safely(func() api.Errno { _, err := d.Append("b", []byte("panic")); return err })
		}), 2 * 6},
	}
}

// several does changes of every kind, so that each Dir has its own files.
func several(d *disk.Disk) {
	d.Create("c")
	d.Append("c", []byte("cc"))
	d.Rename("a", "d")
	d.Rename("c", "b")
	d.Remove("b")
	d.Create("a")
	d.Append("a", []byte("anew"))
}

// drawn does to an empty disk what is drawn.
func drawn(seed int64) making {
	return making{fmt.Sprint("drawn ", seed), func() *disk.Disk {
		r := rand.New(rand.NewSource(seed))
		d := disk.New(30)
		for range 4 + r.Intn(24) {
			drawCall(r, d)
		}
		return d
	}, 0}
}

func drawCall(r *rand.Rand, d *disk.Disk) {
	name := func() string { return string(rune('a' + r.Intn(4))) }
	switch r.Intn(16) {
	case 0, 1, 2:
		d.Create(name())
	case 3, 4, 5, 6, 7:
		d.Append(name(), []byte("0123456789")[:r.Intn(4)])
	case 8, 9:
		d.Sync(name())
	case 10:
		d.Cut(name(), r.Intn(6))
	case 11:
		d.Rename(name(), name())
	case 12:
		d.Remove(name())
	case 13, 14:
		d.SyncDir()
	case 15:
		d.Arm(api.Fault{At: int64(1 + r.Intn(9)), Kind: 1 + r.Intn(3), Part: r.Intn(3)})
	}
}
