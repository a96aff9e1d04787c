package disk

import (
	"strings"

	"flume/api"
	"flume/name"
)

// refuse tells why no call may go on with these names; OK if it may.
func (d *Disk) refuse(names ...string) api.Errno {
	if !d.Up() {
		return api.ErrDown
	}
	for _, s := range names {
		if !name.May(s) {
			return api.ErrName
		}
	}
	return api.OK
}

// find gives the file of that name.
func (d *Disk) find(name string) (*file, api.Errno) {
	if err := d.refuse(name); err != api.OK {
		return nil, err
	}
	f, there := d.files[name]
	if !there {
		return nil, api.ErrNone
	}
	return f, api.OK
}

// Create lays an empty file. (Of names that stay with the disk copies are kept: a name may be a piece of a long text.)
func (d *Disk) Create(name string) api.Errno {
	if err := d.refuse(name); err != api.OK {
		return err
	}
	if _, there := d.files[name]; there {
		return api.ErrExists
	}
	if len(d.files) >= api.MaxFiles {
		return api.ErrMany
	}
	if err := d.strike(d.begin(&d.counts.Creates)); err != api.OK {
		return err
	}
	d.change(create{name: strings.Clone(name), file: &file{}})
	return api.OK
}

// Append puts bytes behind a file's, and tells how many.
func (d *Disk) Append(name string, b []byte) (int, api.Errno) {
	f, err := d.find(name)
	if err != api.OK {
		return 0, err
	}
	fault := d.begin(&d.counts.Appends)
	n := min(len(b), d.room())
	if fault.Kind != 0 {
		n = min(n, fault.Part)
	}
	f.bytes = append(f.bytes, b[:n]...)
	d.counts.Bytes += int64(n)
	if err := d.strike(fault); err != api.OK {
		return n, err
	}
	if n < len(b) {
		return n, api.ErrFull
	}
	return n, api.OK
}

// room tells how many more bytes fit. A Crash may leave more than the disk is to hold: then none do.
func (d *Disk) room() int {
	left := d.most
	for _, f := range d.files {
		left -= len(f.bytes)
	}
	return max(left, 0)
}

// Sync makes a file's bytes last.
func (d *Disk) Sync(name string) api.Errno {
	f, err := d.find(name)
	if err != api.OK {
		return err
	}
	fault := d.begin(&d.counts.Syncs)
	if fault.Kind == api.FaultIO || fault.Kind == api.FaultPanic {
		f.spoil()
	}
	if err := d.strikeRoomless(fault); err != api.OK {
		return err
	}
	f.sync()
	return api.OK
}

// Cut takes what a file has beyond size away, for good.
func (d *Disk) Cut(name string, size int) api.Errno {
	f, err := d.find(name)
	if err != api.OK {
		return err
	}
	if size < 0 || size > len(f.bytes) {
		return api.ErrBounds
	}
	if err := d.strikeRoomless(d.begin(&d.counts.Cuts)); err != api.OK {
		return err
	}
	f.cut(size)
	return api.OK
}

// Rename makes the name to lead to the file that from led to.
func (d *Disk) Rename(from, to string) api.Errno {
	if err := d.refuse(from, to); err != api.OK {
		return err
	}
	if _, err := d.find(from); err != api.OK {
		return err
	}
	if err := d.strikeRoomless(d.begin(&d.counts.Renames)); err != api.OK {
		return err
	}
	if from != to {
		d.change(rename{from: strings.Clone(from), to: strings.Clone(to)})
	}
	return api.OK
}

// Remove makes a name lead to no file.
func (d *Disk) Remove(name string) api.Errno {
	if _, err := d.find(name); err != api.OK {
		return err
	}
	if err := d.strikeRoomless(d.begin(&d.counts.Removes)); err != api.OK {
		return err
	}
	d.change(remove{name: strings.Clone(name)})
	return api.OK
}

// SyncDir makes the directory last.
func (d *Disk) SyncDir() api.Errno {
	if err := d.refuse(); err != api.OK {
		return err
	}
	if err := d.strikeRoomless(d.begin(&d.counts.DirSyncs)); err != api.OK {
		return err
	}
	d.settle()
	return api.OK
}
