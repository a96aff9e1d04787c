package disk_test

import (
	"fmt"
	"maps"
	"slices"
	"strings"

	"flume/api"
	"flume/disk"
)

// A disk by the chapter's words, in another way than the program's: of a file each byte for itself, of the directory each state that it had since the last SyncDir.

type cell struct {
	read, lasts  byte
	firm, marked bool
}

type plainFile struct{ cells []cell }

type plainDisk struct {
	most   int
	down   bool
	dirs   []map[string]*plainFile // the lasting directory, then what it was behind each change that pends
	faults []api.Fault             // At counts from the disk's beginning
	counts api.Counts
}

// The seven operations.
const (
	opCreate = iota
	opAppend
	opSync
	opCut
	opRename
	opRemove
	opSyncDir
	opCount
)

type call struct {
	op       int
	name, to string
	data     string
	size     int
}

// answer is what came of a call; boom is the Op of a panic.
type answer struct {
	n    int
	err  api.Errno
	boom int64
}

func (c call) on(d *disk.Disk) (a answer) {
	defer func() {
		switch x := recover().(type) {
		case nil:
		case api.Boom:
			a.boom = x.Op
		default:
			panic(x)
		}
	}()
	switch c.op {
	case opCreate:
		a.err = d.Create(c.name)
	case opAppend:
		a.n, a.err = d.Append(c.name, []byte(c.data))
	case opSync:
		a.err = d.Sync(c.name)
	case opCut:
		a.err = d.Cut(c.name, c.size)
	case opRename:
		a.err = d.Rename(c.name, c.to)
	case opRemove:
		a.err = d.Remove(c.name)
	case opSyncDir:
		a.err = d.SyncDir()
	}
	return
}

func newPlain(most int) *plainDisk {
	return &plainDisk{most: most, dirs: []map[string]*plainFile{{}}}
}

func (p *plainDisk) now() map[string]*plainFile { return p.dirs[len(p.dirs)-1] }

func (p *plainDisk) refusal(c call) api.Errno {
	f := p.now()[c.name]
	switch {
	case p.down:
		return api.ErrDown
	case c.op != opSyncDir && !plainName(c.name), c.op == opRename && !plainName(c.to):
		return api.ErrName
	case c.op != opCreate && c.op != opSyncDir && f == nil:
		return api.ErrNone
	case c.op == opCreate && f != nil:
		return api.ErrExists
	case c.op == opCreate && len(p.now()) == 256:
		return api.ErrMany
	case c.op == opCut && (c.size < 0 || c.size > len(f.cells)):
		return api.ErrBounds
	}
	return api.OK
}

// plainName knows the names that the tests use.
func plainName(s string) bool {
	return len(s) >= 1 && len(s) <= 64 && strings.Trim(s, "abcdefghijklmnopqrstuvwxyz0123456789") == ""
}

func (p *plainDisk) count(op int) {
	c := &p.counts
	*[]*int64{&c.Creates, &c.Appends, &c.Syncs, &c.Cuts, &c.Renames, &c.Removes, &c.DirSyncs}[op]++
	c.All++
}

func (p *plainDisk) fault() api.Fault {
	for _, f := range p.faults {
		if f.At == p.counts.All {
			return f
		}
	}
	return api.Fault{}
}

func (p *plainDisk) do(c call) answer {
	if err := p.refusal(c); err != api.OK {
		return answer{err: err}
	}
	p.count(c.op)
	fault := p.fault()
	n := 0
	if c.op == opAppend {
		n = p.put(c, fault)
	}
	if c.op == opSync && (fault.Kind == api.FaultIO || fault.Kind == api.FaultPanic) {
		p.now()[c.name].mark()
	}
	switch {
	case fault.Kind == api.FaultIO:
		return answer{n: n, err: api.ErrIO}
	case fault.Kind == api.FaultFull && (c.op == opAppend || c.op == opCreate):
		return answer{n: n, err: api.ErrFull}
	case fault.Kind == api.FaultPower:
		p.down = true
		return answer{n: n, err: api.ErrDown}
	case fault.Kind == api.FaultPanic:
		return answer{boom: p.counts.All}
	}
	if c.op == opAppend && n < len(c.data) {
		return answer{n: n, err: api.ErrFull}
	}
	p.finish(c)
	return answer{n: n}
}

// put appends byte by byte, and stops at the first that may not be.
func (p *plainDisk) put(c call, fault api.Fault) (n int) {
	held := 0
	for _, f := range p.now() {
		held += len(f.cells)
	}
	f := p.now()[c.name]
	for n < len(c.data) && held < p.most && (fault.Kind == 0 || n < fault.Part) {
		f.cells = append(f.cells, cell{read: c.data[n]})
		n, held = n+1, held+1
	}
	p.counts.Bytes += int64(n)
	return
}

func (p *plainDisk) finish(c call) {
	f := p.now()[c.name]
	switch c.op {
	case opCreate:
		p.next()[c.name] = &plainFile{}
	case opSync:
		f.keep(len(f.cells))
	case opCut:
		f.cells = f.cells[:c.size:c.size]
	case opRename:
		if c.name != c.to {
			dir := p.next()
			dir[c.to] = f
			delete(dir, c.name)
		}
	case opRemove:
		delete(p.next(), c.name)
	case opSyncDir:
		p.dirs = []map[string]*plainFile{p.now()}
	}
}

// next lays a new state of the directory behind the others.
func (p *plainDisk) next() map[string]*plainFile {
	p.dirs = append(p.dirs, maps.Clone(p.now()))
	return p.now()
}

func (f *plainFile) mark() {
	for i := range f.cells {
		f.cells[i].marked = !f.cells[i].firm
	}
}

func (f *plainFile) tail() (n int) {
	for _, c := range f.cells {
		if !c.firm {
			n++
		}
	}
	return
}

// keep makes the first n bytes of the tail last, and no mark is left on them.
func (f *plainFile) keep(n int) {
	for i, c := range f.cells {
		if c.firm || n == 0 {
			continue
		}
		c.lasts = c.read
		if c.marked {
			c.lasts = 0
		}
		c.firm, c.marked = true, false
		f.cells[i] = c
		n--
	}
}

func (p *plainDisk) dir(n int) map[string]*plainFile {
	return p.dirs[max(0, min(n, len(p.dirs)-1))]
}

func (p *plainDisk) crash(f api.Fate) {
	dir := p.dir(f.Dir)
	for i, s := range slices.Sorted(maps.Keys(dir)) {
		var k api.Keep
		if i < len(f.Keeps) {
			k = f.Keeps[i]
		}
		dir[s].crash(k)
	}
	p.dirs = []map[string]*plainFile{dir}
	p.down, p.faults = false, nil
}

func (f *plainFile) crash(k api.Keep) {
	n := min(max(k.N, 0), f.tail())
	left := f.tail() - n
	f.keep(n)
	var after []cell
	for _, c := range f.cells {
		if c.firm {
			after = append(after, cell{read: c.lasts, lasts: c.lasts, firm: true})
		}
	}
	for i, b := range k.Junk {
		if i < left && i < 512 {
			after = append(after, cell{read: b, lasts: b, firm: true})
		}
	}
	f.cells = after
}

func (p *plainDisk) arm(fs []api.Fault) {
	p.faults = nil
	for _, f := range fs {
		f.At += p.counts.All
		p.faults = append(p.faults, f)
	}
}

func (p *plainDisk) copy() *plainDisk {
	c := &plainDisk{most: p.most, down: p.down, faults: slices.Clone(p.faults), counts: p.counts}
	copies := map[*plainFile]*plainFile{}
	for _, dir := range p.dirs {
		to := map[string]*plainFile{}
		for s, f := range dir {
			if copies[f] == nil {
				copies[f] = &plainFile{cells: slices.Clone(f.cells)}
			}
			to[s] = copies[f]
		}
		c.dirs = append(c.dirs, to)
	}
	return c
}

// tell writes down all that can be asked of a disk: the tests hold that text of the one against that of the other.
func (p *plainDisk) tell() string {
	var b strings.Builder
	fmt.Fprintln(&b, "up", !p.down, "counts", p.counts, "pending", len(p.dirs)-1)
	for s, f := range inOrder(p.now()) {
		fmt.Fprintf(&b, "file %s %q\n", s, f.reads())
	}
	for s, f := range inOrder(p.dirs[0]) {
		var l []byte
		for _, c := range f.cells {
			if c.firm {
				l = append(l, c.lasts)
			}
		}
		fmt.Fprintf(&b, "lasting %s %q\n", s, l)
	}
	for n := -1; n <= len(p.dirs); n++ {
		for s, f := range inOrder(p.dir(n)) {
			fmt.Fprintln(&b, "tail", n, s, f.tail())
		}
	}
	if !p.down {
		fmt.Fprintln(&b, "list", slices.Sorted(maps.Keys(p.now())))
	}
	return b.String()
}

func (f *plainFile) reads() (l []byte) {
	for _, c := range f.cells {
		l = append(l, c.read)
	}
	return
}

func inOrder(dir map[string]*plainFile) func(func(string, *plainFile) bool) {
	return func(yield func(string, *plainFile) bool) {
		for _, s := range slices.Sorted(maps.Keys(dir)) {
			if !yield(s, dir[s]) {
				return
			}
		}
	}
}

func tell(d *disk.Disk) string {
	var b strings.Builder
	fmt.Fprintln(&b, "up", d.Up(), "counts", d.Count(), "pending", d.Pending())
	b.WriteString(body(d))
	return b.String()
}

// body is what there is on a disk, without its counts and whether it is up.
func body(d *disk.Disk) string {
	var b strings.Builder
	for _, f := range d.Files() {
		fmt.Fprintf(&b, "file %s %q\n", f.Name, f.Bytes)
	}
	for _, f := range d.Lasting() {
		fmt.Fprintf(&b, "lasting %s %q\n", f.Name, f.Bytes)
	}
	for n := -1; n <= d.Pending()+1; n++ {
		for _, l := range d.Tails(n) {
			fmt.Fprintln(&b, "tail", n, l.Name, l.N)
		}
	}
	if l, err := d.List(); err == api.OK {
		fmt.Fprintln(&b, "list", l)
	}
	return b.String()
}
