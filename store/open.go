package store

import (
	"slices"

	"flume/api"
	"flume/catalog"
	"flume/disk"
	"flume/name"
	"flume/segment"
)

const (
	minSegMax = 64
	minBase   = 1
)

// Kinds of names (name.Kind) of files that a log has no use for when it is opened: segments that no catalog has, and files that did not come to take another's place.
const (
	kindSegment = 1
	kindNext    = 3
)

// Open takes up the log that is on a disk, or begins one, and tells what it found.
func Open(d *disk.Disk, p api.Params) (s *Store, found api.Found, err api.Errno) {
	if d == nil || !may(p) {
		return nil, api.Found{}, api.ErrArg
	}
	defer func() {
		if x := recover(); x != nil {
			s, found, err = nil, api.Found{}, reason(x)
		}
	}()
	s = &Store{disk: d, segMax: p.SegMax}
	names := s.settle()
	if slices.Contains(names, name.Catalog()) {
		found = s.resume(names)
	} else {
		found = s.begin(names, p.Base)
	}
	s.next = s.open().Look().Next
	s.durable = s.next
	return s, found, api.OK
}

func may(p api.Params) bool {
	return p.SegMax >= minSegMax && p.SegMax <= api.MaxSegSize && p.Base >= minBase
}

// settle gives the names of all files. They last: what is done next must not go by a name that a loss of power could take back.
func (s *Store) settle() []string {
	names, err := s.disk.List()
	must(err)
	if s.disk.Pending() > 0 {
		must(s.disk.SyncDir())
	}
	return names
}

// begin lays a log without records.
func (s *Store) begin(names []string, base int64) api.Found {
	gone := strays(names, nil)
	s.remove(gone)
	first := api.Seg{Num: 1, Base: base}
	s.segments = []*segment.Segment{s.lay(first)}
	s.write(api.Catalog{Gen: 1, First: base, Segs: []api.Seg{first}})
	return api.Found{Fresh: true, Removed: len(gone)}
}

// resume takes up the log that the catalog tells of.
func (s *Store) resume(names []string) api.Found {
	s.catalog = s.readCatalog()
	segs := s.catalog.Segs
	gone := strays(names, segs)
	s.remove(gone)
	last := len(segs) - 1
	for i, g := range segs[:last] {
		s.segments = append(s.segments, s.takeSealed(g, segs[i+1].Seed))
	}
	open, lost := s.takeOpen(segs[last])
	s.segments = append(s.segments, open)
	return api.Found{Removed: len(gone), Lost: lost}
}

func (s *Store) readCatalog() api.Catalog {
	size, err := s.disk.Size(name.Catalog())
	must(err)
	b, err := s.disk.Read(name.Catalog(), 0, size)
	must(err)
	c, err := catalog.Read(b)
	sound(err == api.OK)
	return c
}

// strays gives those of the names that a log with these segments has no use for.
func strays(names []string, segs []api.Seg) []string {
	var list []string
	for _, file := range names {
		kind := name.Kind(file)
		if kind == kindNext || kind == kindSegment && !belongs(file, segs) {
			list = append(list, file)
		}
	}
	return list
}

func belongs(file string, segs []api.Seg) bool {
	return slices.ContainsFunc(segs, func(g api.Seg) bool { return fileOf(g) == file })
}

// sound gives up a log whose files are not what its catalog says.
func sound(ok bool) {
	if !ok {
		must(api.ErrCorrupt)
	}
}

// take opens a segment's file, whose head must be what the catalog says.
func (s *Store) take(g api.Seg) *segment.Segment {
	taken, _, err := segment.Open(s.disk, fileOf(g))
	sound(err == api.OK && taken.Look().Head == headOf(g))
	return taken
}

// takeSealed opens a segment that must be, to its last byte, what the catalog says; seed is that of the one behind it. (Broken is one with bytes behind its last frame.)
func (s *Store) takeSealed(g api.Seg, seed uint32) *segment.Segment {
	taken := s.take(g)
	l := taken.Look()
	sound(l.Next == g.End && l.Size == g.Size && l.Seed == seed && !l.Broken)
	return taken
}

// takeOpen opens the open segment, so that all it has then lasts, and tells how many bytes stood behind its last frame.
func (s *Store) takeOpen(g api.Seg) (*segment.Segment, int) {
	taken := s.take(g)
	l := taken.Look()
	sound(s.catalog.First <= l.Next)
	size, err := s.disk.Size(l.File)
	must(err)
	if s.hasTail(l.File) {
		taken = s.rewrite(g, l.Size)
	} else {
		must(taken.Trim())
	}
	return taken, size - l.Size
}

func (s *Store) hasTail(file string) bool {
	tails := s.disk.Tails(s.disk.Pending())
	return slices.ContainsFunc(tails, func(t api.Tail) bool { return t.Name == file && t.N > 0 })
}

// rewrite lays the front of a segment's file, head and frames, into a new file in its place. The old one's tail can't be made to last: a Sync of it may have failed, and what that spoilt stays so.
func (s *Store) rewrite(g api.Seg, size int) *segment.Segment {
	front, err := s.disk.Read(fileOf(g), 0, size)
	must(err)
	s.replace(fileOf(g), name.NextSegment(), front)
	return s.take(g)
}
