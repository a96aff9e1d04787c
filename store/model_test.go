package store_test

import (
	"math"
	"slices"
	"strings"

	"flume/api"
	"flume/catalog"
	"flume/disk"
)

// op is an operation of a disk.
type op struct {
	kind, name, to string
	b              []byte
	size           int
}

func (o op) on(d *disk.Disk) (err api.Errno) {
	defer func() {
		if recover() != nil {
			err = api.ErrPanic
		}
	}()
	switch o.kind {
	case "Create":
		return d.Create(o.name)
	case "Append":
		_, err := d.Append(o.name, o.b)
		return err
	case "Sync":
		return d.Sync(o.name)
	case "Cut":
		return d.Cut(o.name, o.size)
	case "Rename":
		return d.Rename(o.name, o.to)
	case "Remove":
		return d.Remove(o.name)
	}
	return d.SyncDir()
}

// run does operations up to the first that does not answer OK.
func run(d *disk.Disk, ops ...op) api.Errno {
	for _, o := range ops {
		if err := o.on(d); err != api.OK {
			return err
		}
	}
	return api.OK
}

func replaced(name, next string, b []byte) []op {
	return []op{{kind: "Create", name: next}, {kind: "Append", name: next, b: b}, {kind: "Sync", name: next}, {kind: "Rename", name: next, to: name}, {kind: "SyncDir"}}
}

func catalogWritten(c api.Catalog) []op {
	return replaced("catalog", "catalog-next", plainCatalog(c))
}

func segmentCreated(p part) []op {
	name := segName(p.seg.Num)
	b, _ := plainHead(p.head())
	return []op{{kind: "Create", name: name}, {kind: "Append", name: name, b: b}, {kind: "Sync", name: name}}
}

func removed(names []string) []op {
	var ops []op
	for _, name := range names {
		ops = append(ops, op{kind: "Remove", name: name})
	}
	if len(names) > 0 {
		ops = append(ops, op{kind: "SyncDir"})
	}
	return ops
}

// plain is a store by the words of the chapter.
type plain struct {
	d             *disk.Disk
	segMax        int
	gen, first    int64
	parts         []part
	next, durable int64
	cause         api.Errno
	closed        bool
}

func (p *plain) catalog() api.Catalog { return catalogOf(p.gen, p.first, p.parts) }

func (p *plain) open() *part { return &p.parts[len(p.parts)-1] }

func (p *plain) look() api.StoreLook {
	return api.StoreLook{First: p.first, Next: p.next, Durable: p.durable, Gen: p.gen, Segs: len(p.parts), Failed: p.cause != api.OK, Closed: p.closed, Cause: p.cause}
}

// plainOpen is P14.1.
func plainOpen(d *disk.Disk, ps api.Params) (*plain, api.Found, api.Errno) {
	p := &plain{d: d, segMax: ps.SegMax}
	found, err := p.opened(ps.Base)
	if err != api.OK {
		return nil, api.Found{}, err
	}
	p.next = p.open().seg.Base + int64(len(p.open().datas))
	p.durable = p.next
	return p, found, api.OK
}

func (p *plain) opened(base int64) (api.Found, api.Errno) {
	names, err := p.d.List()
	if err != api.OK {
		return api.Found{}, err
	}
	if p.d.Pending() > 0 {
		if err := run(p.d, op{kind: "SyncDir"}); err != api.OK {
			return api.Found{}, err
		}
	}
	if !slices.Contains(names, "catalog") {
		return p.begun(names, base)
	}
	c, err := catalog.Read(bytesOf(p.d, "catalog"))
	if err != api.OK {
		return api.Found{}, api.ErrCorrupt
	}
	p.gen, p.first = c.Gen, c.First
	gone := strayNames(names, c.Segs)
	if err := run(p.d, removed(gone)...); err != api.OK {
		return api.Found{}, err
	}
	for i, g := range c.Segs {
		if !p.taken(g) || i > 0 && !followsOn(p.parts[i-1], p.parts[i]) {
			return api.Found{}, api.ErrCorrupt
		}
	}
	lost, err := p.mended()
	return api.Found{Removed: len(gone), Lost: lost}, err
}

func (p *plain) begun(names []string, base int64) (api.Found, api.Errno) {
	gone := strayNames(names, nil)
	p.gen, p.first = 1, base
	p.parts = []part{{seg: api.Seg{Num: 1, Base: base}}}
	ops := slices.Concat(removed(gone), segmentCreated(p.parts[0]), catalogWritten(p.catalog()))
	return api.Found{Fresh: true, Removed: len(gone)}, run(p.d, ops...)
}

// strayNames are the names of the kinds 1 and 3 that are none of the segments'.
func strayNames(names []string, segs []api.Seg) []string {
	var gone []string
	for _, name := range names {
		segment := strings.HasPrefix(name, "seg-") && strings.HasSuffix(name, ".log")
		if segment && !slices.ContainsFunc(segs, func(g api.Seg) bool { return segName(g.Num) == name }) || name == "catalog-next" || name == "segment-next" {
			gone = append(gone, name)
		}
	}
	return gone
}

// taken takes in a segment's file; whether it is what the catalog says.
func (p *plain) taken(g api.Seg) bool {
	b := bytesOf(p.d, segName(g.Num))
	x := part{seg: g}
	head, _ := plainHead(x.head())
	if len(b) < 32 || string(b[:32]) != string(head) {
		return false
	}
	x.datas = plainRecords(b, x.head())
	p.parts = append(p.parts, x)
	next := g.Base + int64(len(x.datas))
	if g.End == 0 {
		return p.first <= next
	}
	return next == g.End && len(x.bytes()) == g.Size && len(b) == g.Size
}

func followsOn(ahead, next part) bool {
	_, seed := plainFile(ahead.head(), ahead.datas...)
	return next.seg.Seed == seed
}

// mended makes all of the open segment last; how many bytes stood behind its last frame.
func (p *plain) mended() (int, api.Errno) {
	name := segName(p.open().seg.Num)
	front := p.open().bytes()
	lost := len(bytesOf(p.d, name)) - len(front)
	tail := slices.ContainsFunc(p.d.Tails(0), func(x api.Tail) bool { return x.Name == name && x.N > 0 })
	switch {
	case tail:
		return lost, run(p.d, replaced(name, "segment-next", front)...)
	case lost > 0:
		return lost, run(p.d, op{kind: "Cut", name: name, size: len(front)})
	}
	return lost, api.OK
}

// refused is what all calls that write are refused with.
func (p *plain) refused() api.Errno {
	if p.closed {
		return api.ErrClosed
	}
	if p.cause != api.OK {
		return api.ErrFailed
	}
	return api.OK
}

// failed keeps the cause, if there is one.
func (p *plain) failed(err api.Errno) api.Errno {
	if err == api.OK {
		return api.OK
	}
	p.cause = err
	return api.ErrFailed
}

// groups parts records into those of one Put each; the first one goes to the open segment.
func (p *plain) groups(datas [][]byte) [][][]byte {
	all := [][][]byte{nil}
	size, count := len(p.open().bytes()), len(p.open().datas)
	for _, data := range datas {
		if count > 0 && size+16+len(data) > p.segMax {
			all = append(all, nil)
			size, count = 32, 0
		}
		all[len(all)-1] = append(all[len(all)-1], data)
		size, count = size+16+len(data), count+1
	}
	return all
}

// append is P14.2.
func (p *plain) append(datas [][]byte) (int64, api.Errno) {
	if err := p.refused(); err != api.OK {
		return 0, err
	}
	if len(datas) == 0 {
		return 0, api.ErrArg
	}
	if slices.ContainsFunc(datas, func(b []byte) bool { return len(b) > 4096 }) {
		return 0, api.ErrLong
	}
	if uint64(p.next)+uint64(len(datas)) > 1<<63-1 {
		return 0, api.ErrEnd
	}
	groups := p.groups(datas)
	rolls := uint64(len(groups) - 1)
	if len(p.parts)+len(groups)-1 > 64 || uint64(p.gen)+rolls > math.MaxInt64 || uint64(p.open().seg.Num)+rolls > math.MaxInt64 {
		return 0, api.ErrMany
	}
	for i, group := range groups {
		if err := p.laidDown(i > 0, group); err != api.OK {
			return 0, p.failed(err)
		}
	}
	first := p.next
	p.next += int64(len(datas))
	if rolls > 0 {
		p.durable = p.open().seg.Base
	}
	return first, api.OK
}

func (p *plain) laidDown(rolls bool, group [][]byte) api.Errno {
	if rolls {
		if err := p.roll(); err != api.OK {
			return err
		}
	}
	if len(group) == 0 {
		return api.OK
	}
	x := p.open()
	was := len(x.bytes())
	more := part{x.seg, slices.Concat(x.datas, group)}
	err := run(p.d, op{kind: "Append", name: segName(x.seg.Num), b: more.bytes()[was:]})
	if err == api.OK {
		*x = more
	}
	return err
}

func (p *plain) roll() api.Errno {
	sealed := *p.open()
	b, seed := plainFile(sealed.head(), sealed.datas...)
	sealed.seg.End, sealed.seg.Size = sealed.seg.Base+int64(len(sealed.datas)), len(b)
	next := part{seg: api.Seg{Num: sealed.seg.Num + 1, Base: sealed.seg.End, Seed: seed}}
	parts := append(slices.Clone(p.parts[:len(p.parts)-1]), sealed, next)
	ops := []op{{kind: "Sync", name: segName(sealed.seg.Num)}}
	ops = append(ops, segmentCreated(next)...)
	ops = append(ops, catalogWritten(catalogOf(p.gen+1, p.first, parts))...)
	err := run(p.d, ops...)
	if err == api.OK {
		p.gen, p.parts = p.gen+1, parts
	}
	return err
}

// sync is P14.3.
func (p *plain) sync() api.Errno {
	if err := p.refused(); err != api.OK {
		return err
	}
	if p.durable == p.next {
		return api.OK
	}
	err := run(p.d, op{kind: "Sync", name: segName(p.open().seg.Num)})
	if err == api.OK {
		p.durable = p.next
	}
	return p.failed(err)
}

// truncate is P14.5.
func (p *plain) truncate(lsn int64) api.Errno {
	if err := p.refused(); err != api.OK {
		return err
	}
	switch {
	case lsn <= p.first:
		return api.OK
	case lsn > p.durable:
		return api.ErrBounds
	case p.gen == math.MaxInt64:
		return api.ErrMany
	}
	var stay []part
	var gone []string
	for _, x := range p.parts {
		if x.seg.End > 0 && x.seg.End <= lsn {
			gone = append(gone, segName(x.seg.Num))
		} else {
			stay = append(stay, x)
		}
	}
	err := run(p.d, catalogWritten(catalogOf(p.gen+1, lsn, stay))...)
	if err == api.OK {
		p.gen, p.first, p.parts = p.gen+1, lsn, stay
		err = run(p.d, removed(gone)...)
	}
	return p.failed(err)
}

// close is P14.6.
func (p *plain) close() api.Errno {
	err := p.sync()
	p.closed = true
	return err
}

// read is P14.4.
func (p *plain) read(lsn int64) (api.Record, api.Errno) {
	switch {
	case p.closed:
		return api.Record{}, api.ErrClosed
	case lsn < p.first:
		return api.Record{}, api.ErrTruncated
	case lsn >= p.durable:
		return api.Record{}, api.ErrNotYet
	case !p.d.Up():
		return api.Record{}, api.ErrDown
	}
	for _, x := range p.parts {
		if i := lsn - x.seg.Base; i >= 0 && i < int64(len(x.datas)) {
			return api.Record{LSN: lsn, Data: x.datas[i]}, api.OK
		}
	}
	return api.Record{}, api.ErrCorrupt
}
