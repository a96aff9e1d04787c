package disk

import (
	"maps"
	"slices"

	"flume/api"
)

// change is what was done to the directory, and can be done again to what it was ahead of that.
type change interface {
	do(dir map[string]*file)
	// copy gives a change that does the same, with a file of its own.
	copy() change
}

type create struct {
	name string
	file *file
}

func (c create) do(dir map[string]*file) { dir[c.name] = c.file }

func (c create) copy() change { return create{name: c.name, file: c.file.copy()} }

type rename struct{ from, to string }

func (c rename) do(dir map[string]*file) {
	dir[c.to] = dir[c.from]
	delete(dir, c.from)
}

func (c rename) copy() change { return c }

type remove struct{ name string }

func (c remove) do(dir map[string]*file) { delete(dir, c.name) }

func (c remove) copy() change { return c }

// change does c, which pends from now on.
func (d *Disk) change(c change) {
	c.do(d.files)
	d.pending = append(d.pending, c)
}

// directory gives what comes of the lasting directory by the first n of what pends.
func (d *Disk) directory(n int) map[string]*file {
	dir := maps.Clone(d.lasting)
	for _, c := range d.pending[:within(n, len(d.pending))] {
		c.do(dir)
	}
	return dir
}

// settle makes the directory the lasting one.
func (d *Disk) settle() {
	d.lasting = maps.Clone(d.files)
	d.pending = nil
}

func names(dir map[string]*file) []string {
	return slices.Sorted(maps.Keys(dir))
}

// Pending tells how many changes pend.
func (d *Disk) Pending() int {
	if d == nil {
		return 0
	}
	return len(d.pending)
}

// Tails tells how long the tail is of each file that is there by the first dir of what pends, by name.
func (d *Disk) Tails(dir int) []api.Tail {
	if !d.made() {
		return nil
	}
	files := d.directory(dir)
	var list []api.Tail
	for _, s := range names(files) {
		list = append(list, api.Tail{Name: s, N: files[s].tail()})
	}
	return list
}

// Crash takes the power away and gives it back: f says what that leaves.
func (d *Disk) Crash(f api.Fate) {
	if !d.made() {
		return
	}
	d.files = d.directory(f.Dir)
	for i, s := range names(d.files) {
		var k api.Keep
		if i < len(f.Keeps) {
			k = f.Keeps[i]
		}
		d.files[s].crash(k)
	}
	d.settle()
	d.armed = nil
	d.up = true
}
